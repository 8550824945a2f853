/- Proved parts: B1a B1g B1h B1k B1l B2m B2n. Conditions: each theorem's own. -/
import Derived.Test.YtbfgpdgiaclphaaGreatM18
import Derived.Test.YtbfgpdgiaclphaaGreatM19
import Derived.Deep.RegionHeldLaw
import Derived.Test.YtbfgpdgiaclphaaGreatQ1
import Derived.Test.YtbfgpdgiaclphaaGreatQ2
set_option maxRecDepth 100000
set_option maxHeartbeats 8000000
namespace Go.Proofs.YtbfgpdgiaclphaaGreat
open Go.RowKit

def stOk (zs:List Int) (g1 g2 g3:Int):Bool:=La.right zs && (decide (1<=g1) && (decide (g1<=16) && (decide (0<=g2) && (decide (g2<=1048576) && (decide (1<=g3) && decide (g3<=1073741824))))))

theorem rRight1 (A:Option Addr) (c:Nat) (zs:List Int) (g1 g2 g3:Int) (w:World) (h:Sl w A zs) (hm:zs.length<=maxLen) (hu:La.U64 zs) :
  Calls Tryz.prog 13 #[.agg #[.slice A zs.length c,.int .i64 g1,.int .i64 g2,.int .i64 g3]] w fun e w'=>e=.returned (.bool (stOk zs g1 g2 g3))∧Below w.heap.size w w':=by
 have b0:Below w.heap.size w (w.alloc (.cells #[.slice A zs.length c,.int .i64 g1,.int .i64 g2,.int .i64 g3] 24)):=(Below.refl _ _).alloc (Nat.le_refl _) _
 have CR:=qh (rright A c zs _ (h.below b0) hm hu)
 have B0:=qh b0
 obtain ⟨n,hn⟩:=nmq (zs.length)
 obtain ⟨R,hR⟩:=nmq (La.right zs)
 obtain ⟨T,hT⟩:=nmq (stOk zs g1 g2 g3)
 have eT:T=(R && (decide (1<=g1) && (decide (g1<=16) && (decide (0<=g2) && (decide (g2<=1048576) && (decide (1<=g3) && decide (g3<=1073741824))))))):=by rw [hT,hR]; rfl
 rw [<-hT]
 rw [<-hR,<-hn] at CR
 rw [<-hn] at B0 ⊢
 have ET:=qh eT
 clear h hm hu hn hR hT eT b0
 have HB:=qh (fun k=>show Below w.heap.size w ((w.alloc (.cells #[.slice A n c,.int .i64 g1,.int .i64 g2,.int .i64 g3] 24)).drewN k) from below_drewN B0.out k)
 go_enter Tryz.func13,Tryz.ntmps13
 go_wp2_with fail
 refine CR.out.mono ?_
 rintro e w1 ⟨rfl,k,rfl⟩
 have B1:=qh (HB.out k)
 clear HB CR B0
 cases R with
 | false =>
  have e:=qh (show T=false from ET.out)
  go_wp2_with fail
  go_ret
  exact ⟨by rw [e.out]; rfl,B1.out⟩
 | true =>
 by_cases p1:(1:Int)<=g1
 case neg =>
  have d1:decide ((1:Int)<=g1)=false:=decide_eq_false p1
  have e:=qh (show T=false by rw [ET.out,d1]; simp)
  clear p1
  go_wp2_with fail
  go_ret
  exact ⟨by rw [e.out]; rfl,B1.out⟩
 have d1:decide ((1:Int)<=g1)=true:=decide_eq_true p1
 by_cases p2:g1<=(16:Int)
 case neg =>
  have d2:decide (g1<=(16:Int))=false:=decide_eq_false p2
  have e:=qh (show T=false by rw [ET.out,d2]; simp)
  clear p1 p2
  go_wp2_with fail
  go_ret
  exact ⟨by rw [e.out]; rfl,B1.out⟩
 have d2:decide (g1<=(16:Int))=true:=decide_eq_true p2
 by_cases p3:(0:Int)<=g2
 case neg =>
  have d3:decide ((0:Int)<=g2)=false:=decide_eq_false p3
  have e:=qh (show T=false by rw [ET.out,d3]; simp)
  clear p1 p2 p3
  go_wp2_with fail
  go_ret
  exact ⟨by rw [e.out]; rfl,B1.out⟩
 have d3:decide ((0:Int)<=g2)=true:=decide_eq_true p3
 by_cases p4:g2<=(1048576:Int)
 case neg =>
  have d4:decide (g2<=(1048576:Int))=false:=decide_eq_false p4
  have e:=qh (show T=false by rw [ET.out,d4]; simp)
  clear p1 p2 p3 p4
  go_wp2_with fail
  go_ret
  exact ⟨by rw [e.out]; rfl,B1.out⟩
 have d4:decide (g2<=(1048576:Int))=true:=decide_eq_true p4
 by_cases p5:(1:Int)<=g3
 case neg =>
  have d5:decide ((1:Int)<=g3)=false:=decide_eq_false p5
  have e:=qh (show T=false by rw [ET.out,d5]; simp)
  clear p1 p2 p3 p4 p5
  go_wp2_with fail
  go_ret
  exact ⟨by rw [e.out]; rfl,B1.out⟩
 have d5:decide ((1:Int)<=g3)=true:=decide_eq_true p5
 clear p1 p2 p3 p4 p5
 cases d6:decide (g3<=(1073741824:Int)) with
 | false =>
  have e:=qh (show T=false by rw [ET.out,d6]; simp)
  go_wp2_with fail
  go_ret
  exact ⟨by rw [e.out]; rfl,B1.out⟩
 | true =>
  have e:=qh (show T=true by rw [ET.out,d1,d2,d3,d4,d5,d6]; rfl)
  go_wp2_with fail
  go_ret
  exact ⟨by rw [e.out]; rfl,B1.out⟩

end Go.Proofs.YtbfgpdgiaclphaaGreat

namespace Go.Proofs.YtbfgpdgiaclphaaGreat
open Go.RowKit

theorem swept_succ (L:Ch) (f:Int) {i:Nat} (hi:i<L.length):Ch.swept (L.take (i+1)) f=if (sweepL (L.chn i) f).length=0 then Ch.swept (L.take i) f else Ch.swept (L.take i) f++[(L.key i,sweepL (L.chn i) f)]:=by
 unfold Ch.swept
 rw [List.take_succ_eq_append_getElem hi,List.map_append,List.filter_append,Ch.getE L hi]
 by_cases z:(sweepL (L.chn i) f).length=0
 ·rw [if_pos z]
  have e:sweepL (L.chn i) f=[]:=List.eq_nil_of_length_eq_zero z
  simp [e]
 ·rw [if_neg z]
  have e:(sweepL (L.chn i) f).isEmpty=false:=by
   cases q:sweepL (L.chn i) f with
   | nil=>rw [q] at z; exact absurd rfl z
   | cons _ _=>rfl
  simp [e]
theorem RiseV.drop {l:List Ver} (h:RiseV l) (k:Nat):RiseV (l.drop k):=fun i j hij hj=>by
 rw [List.length_drop] at hj
 rw [getD_drop,getD_drop]
 exact h _ _ (by omega) (by omega)
theorem mem_swept {L:Ch} {f:Int} {x:ByteArray × List Ver} (h:x ∈ L.swept f):∃ y,(x.1,y) ∈ L∧x.2=sweepL y f:=by
 unfold Ch.swept at h
 obtain ⟨h1,_⟩:=List.mem_filter.1 h
 obtain ⟨y,hy,rfl⟩:=List.mem_map.1 h1
 exact ⟨y.2,hy,rfl⟩
theorem swept_len (L:Ch) (f:Int):(L.swept f).length<=L.length:=by
 unfold Ch.swept
 refine Nat.le_trans (List.length_filter_le _ _) ?_
 rw [List.length_map]; exact Nat.le_refl _
theorem GoodC.swept {L:Ch} (h:GoodC L) (f:Int):GoodC (L.swept f):=by
 refine ⟨Nat.le_trans (swept_len L f) h.len,fun x hx=>?_,fun x hx=>?_,fun x hx=>?_,fun x hx=>?_,?_,fun x hx=>?_⟩
 ·obtain ⟨y,hy,e⟩:=mem_swept hx
  rw [e]; exact fun z hz=>h.fits _ hy z (List.mem_of_mem_drop hz)
 ·obtain ⟨y,hy,e⟩:=mem_swept hx
  rw [e]; exact fun z hz=>h.texts _ hy z (List.mem_of_mem_drop hz)
 ·obtain ⟨y,hy,e⟩:=mem_swept hx
  rw [e]; unfold sweepL; rw [List.length_drop]; have:y.length<=1000:=h.lens _ hy; omega
 ·obtain ⟨y,hy,e⟩:=mem_swept hx
  exact h.keys (x.1,y) hy
 ·unfold Ch.Rise Ch.swept
  refine List.Pairwise.filter _ ?_
  rw [List.pairwise_map]
  exact h.rise
 ·obtain ⟨y,hy,e⟩:=mem_swept hx
  rw [e]; exact (h.rises _ hy).drop _
section
variable {w w' w2 w3 w4:World} {p q:Nat} {v lb:Value} {g2 g3:Int} {r r':Rg} {G:Nat->Prop} {A A':Option Addr} {c c':Nat} {L M:Ch}
theorem LeftR1.fresh (h:RoomG w p q v lb g2 g3 r G A c L) (s:SepR p q v G) (hb:Below w.heap.size w w4) (hs:SlO w4 (fun y=>w.heap.size<=y) A' M) :
  LeftR1 w p q v lb g2 g3 G r M (w4.setCell ⟨p,5,none⟩ (.slice A' M.length c')):=by
 have pl:=h.row.lt
 have h4:=h.below hb
 have sb:=hs.bound
 have bk:∀ k,k≠p->(w4.setCell ⟨p,5,none⟩ (.slice A' M.length c')).heap[k]?=w4.heap[k]?:=fun k e=>Below.heap_setCell _ _ _ _ e
 have sz:(w4.setCell ⟨p,5,none⟩ (.slice A' M.length c')).heap.size=w4.heap.size:=by simp
 refine ⟨(Chg.of_below hb).setCell (.inl (.inl rfl)) _,v,fun y=>w.heap.size<=y∧y<w4.heap.size,A',c',⟨?_,?_,?_,?_⟩,⟨s.1,?_⟩,fun _ e=>.inl e,fun _ e=>.inr e.1⟩
 ·exact h4.row.set 5 _
 ·exact h4.ring.keep fun k e=>bk k fun ek=>s.1 (ek ▸ e)
 ·exact sb.keep (fun k e=>bk k (by omega)) (Nat.le_of_eq sz.symm)
 ·intro y e; rw [sz]; exact e.2
 ·intro y e
  refine ⟨fun f=>?_,by omega⟩
  have:=h.ring.lt y f; omega
end

theorem rSweep1 (p q:Nat) (v lb:Value) (g2 g3:Int) (r:Rg) (G:Nat->Prop) (A:Option Addr) (c:Nat) (L:Ch) (w:World) (h:RoomG w p q v lb g2 g3 r G A c L) (hs:SepR p q v G) (ok:r.Ok) (hL:GoodC L) (hv:L.vers<=1000000) (hn:L.length<=10000) :
  Calls Tryz.prog 66 #[.pointer (some ⟨p,0,none⟩)] w fun e w'=>e=.returned (.int .i64 ((L.vers:Int)-((L.swept (r.floor:Int)).vers:Int)))∧LeftR1 w p q v lb g2 g3 G r (L.swept (r.floor:Int)) w':=by
 have V1:=qh (rVers1 p G A c L w h.c5 h.sl hL)
 have FL:=qh (fun W (b:Below w.heap.size w W)=>rFloor1 p q v lb _ g2 g3 r W (h.below b).row (h.below b).ring ok)
 obtain ⟨f,hf⟩:=nmq ((r.floor:Int))
 rw [<-hf]
 simp only [<-hf] at FL
 have SW:=qh (fun i (hi:i<L.length)=>by
  obtain ⟨bb,o,A',c',e,hb,hg,k0,k1,sv⟩:=h.sl.at hi
  obtain ⟨g1,g2,g3,g4,g5⟩:=hL.get hi
  exact (show ∃ bb o A' c',A=some ⟨bb,o,none⟩∧bb<w.heap.size∧w.cell? ⟨bb,o+i * 2,none⟩=some (.string (L.key i))∧w.cell? ⟨bb,o+i * 2+1,none⟩=some (.slice A' (L.chn i).length c') ∧
   ∀ W,Below w.heap.size w W->Calls Tryz.prog 112 #[.slice A' (L.chn i).length c',.int .i64 f] W fun e w'=>∃ A2 c2,e=.returned (.slice A2 (sweepL (L.chn i) f).length c2)∧SlV w' A2 (sweepL (L.chn i) f)∧(0<(sweepL (L.chn i) f).length->∃ g o,A2=some ⟨g,o,none⟩∧W.heap.size<=g)∧Below W.heap.size W w' from
   ⟨bb,o,A',c',e,hb,k0,k1,fun W b=>rSweep9G (L.chn i) A' c' f W (sv.1.below b) g5 g3⟩))
 have FI:=qh (fun W4 A' c' (hb:Below w.heap.size w W4) (hsl:SlO W4 (fun y=>w.heap.size<=y) A' (L.swept f))=>LeftR1.fresh (c':=c') h hs hb hsl)
 have F5:=qh (fun W (b:Below w.heap.size w W)=>show W.frozen? ⟨p,5,none⟩=false∧W.cell? ⟨p,5,none⟩=some (.slice A L.length c) from ⟨(h.below b).row.frozen 5,(h.below b).c5⟩)
 have GS:=qh (hL.swept f)
 have ST:=qh (fun i (hi:i<L.length)=>swept_succ L f hi)
 have SL:=qh (fun i=>Nat.le_trans (swept_len (L.take i) f) (by rw [List.length_take]; exact Nat.min_le_right _ _))
 have vs:(L.swept f).vers<=L.vers:=by
  unfold Ch.vers Ch.swept
  clear h hs hL V1 FL SW FI F5 GS ST SL hv hn
  induction L with
  | nil=>exact Nat.le_refl _
  | cons x L ih =>
   rw [List.map_cons,List.filter_cons]
   have e1:(sweepL x.2 f).length<=x.2.length:=by unfold sweepL; rw [List.length_drop]; omega
   split
   ·rw [List.map_cons,List.sum_cons,List.map_cons,List.sum_cons]; exact Nat.add_le_add e1 ih
   ·rw [List.map_cons,List.sum_cons]; exact Nat.le_trans ih (Nat.le_add_left _ _)
 obtain ⟨V,hV⟩:=nmq (L.vers)
 obtain ⟨U,hU⟩:=nmq ((L.swept f).vers)
 rw [<-hV] at V1 vs hv ⊢
 rw [<-hU] at vs ⊢
 have HU:=qh hU
 obtain ⟨n,hn2⟩:=nmq (L.length)
 simp only [<-hn2] at SW F5 ST SL
 rw [<-hn2] at hn
 have HN:=qh hn2
 obtain ⟨B,hB⟩:=nmq (w.heap.size)
 have HB:=qh hB
 have c5:=(F5.out w (Below.refl _ _)).2
 obtain ⟨T,hT⟩:=nmq (V-U)
 have iT:(V:Int)-(U:Int)=(T:Int):=by omega
 have tb:T<=1000000:=by omega
 rw [iT]
 clear h hs ok hL hf hV hU hn2 hB vs hv hT
 go_enter Tryz.func66,Tryz.ntmps66
 go_wp2_with fail
 refine V1.out.mono ?_
 rintro e w1 ⟨rfl,rfl⟩
 go_wp2_with fail
 have O0:=qh (OwnZ.made w1 (Nat.le_refl _))
 have B0:=qh ((Below.refl w1.heap.size w1).alloc (Nat.le_refl _) (.cells #[] 139))
 go_loopw [4,5] (fun vo vi wr=>∃ (i:Nat) (v:Value) (zs:Zs),v=vo∧vi=.int .i64 i∧i<=n∧Hid (OwnZ wr w1.heap.size v zs)∧Hid (ZL wr (Gn (fun _=>False) w1.heap.size v) zs (Ch.swept (L.take i) f))∧Hid (Below w1.heap.size w1 wr)) (fun _ vi _=>n-(intOf vi).toNat)
 case atStart=>exact ⟨0,_,[],rfl,rfl,Nat.zero_le _,O0,qh (by rw [List.take_zero]; exact ZL.nil _ _),B0⟩
 case round =>
  obtain ⟨i,v,zs,rfl,rfl,hi,HO,HZ,HW⟩:=hrel
  by_cases z:i<n
  ·have h5:=(F5.out _ HW.out).2
   obtain ⟨b,o,A',c',rfl,hb,k0,k1,CS⟩:=SW.out i z
   have K0:=qh k0
   have K1:=qh k1
   have CS:=qh CS
   have ET:=qh (ST.out i z)
   have LN:=qh (show zs.length<=1000000 by rw [HZ.out.1]; have:=SL.out i; omega)
   obtain ⟨m,hm⟩:=nmq ((L.chn i).length)
   rw [<-hm] at K1 CS k1
   obtain ⟨D,hD⟩:=nmq (sweepL (L.chn i) f)
   simp only [<-hD] at CS ET
   obtain ⟨d,hd⟩:=nmq (D.length)
   simp only [<-hd] at CS ET
   obtain ⟨x,hx⟩:=nmq (L.key i)
   rw [<-hx] at K0 k0 ET
   have HD:=qh hd
   have i0:(0:Int)<=(i:Int):=by omega
   have i1:(i:Int)<(n:Int):=by omega
   clear hm hD hd hx k0 k1
   go_wp2_with fail
   have W0:=qh (below_drew HW.out)
   refine wp_region_held_drew (S:=(Below w1.heap.size w1)) (by kernel_rfl) (W0.out) (fun gH=>?_)
   refine rgT 0 (v:=?v1) ?y1 gH ?_
   case y1=>(intro v hSw; have y0:=(F5.out _ hSw).2; have y1:=(hSw.cell (p:=⟨b,o+i * 2+1,none⟩) (block_lt_of_cell K1.out)).trans K1.out; go_simp<;>rfl)
   refine rgT 1 (v:=?v2) ?y2 gH ?_
   case y2=>(intro v hSw; have y0:=(F5.out _ hSw).2; have y1:=(hSw.cell (p:=⟨b,o+i * 2+1,none⟩) (block_lt_of_cell K1.out)).trans K1.out; go_simp<;>rfl)
   refine rgT 2 (v:=?v3) ?y3 gH ?_
   case y3=>(intro v hSw; have y0:=(F5.out _ hSw).2; have y1:=(hSw.cell (p:=⟨b,o+i * 2+1,none⟩) (block_lt_of_cell K1.out)).trans K1.out; go_simp<;>rfl)
   try simp only [putS]
   refine rgT 3 (v:=?v4) ?y4 gH ?_
   case y4=>(intro v hSw; have y0:=(F5.out _ hSw).2; have y1:=(hSw.cell (p:=⟨b,o+i * 2+1,none⟩) (block_lt_of_cell K1.out)).trans K1.out; go_simp<;>rfl)
   refine rgT 4 (v:=?v5) ?y5 gH ?_
   case y5=>(intro v hSw; have y0:=(F5.out _ hSw).2; have y1:=(hSw.cell (p:=⟨b,o+i * 2+1,none⟩) (block_lt_of_cell K1.out)).trans K1.out; go_simp<;>rfl)
   refine rgT 5 (v:=?v6) ?y6 gH ?_
   case y6=>(intro v hSw; have y0:=(F5.out _ hSw).2; have y1:=(hSw.cell (p:=⟨b,o+i * 2+1,none⟩) (block_lt_of_cell K1.out)).trans K1.out; go_simp<;>rfl)
   try simp only [putS]
   refine rgT 6 (v:=?v7) ?y7 gH ?_
   case y7=>(intro v hSw; have y0:=(F5.out _ hSw).2; have y1:=(hSw.cell (p:=⟨b,o+i * 2+1,none⟩) (block_lt_of_cell K1.out)).trans K1.out; go_simp<;>rfl)
   refine rgT 7 (v:=?v8) ?y8 gH ?_
   case y8=>(intro v hSw; have y0:=(F5.out _ hSw).2; have y1:=(hSw.cell (p:=⟨b,o+i * 2+1,none⟩) (block_lt_of_cell K1.out)).trans K1.out; go_simp<;>rfl)
   refine rgT 8 (v:=?v9) ?y9 gH ?_
   case y9=>(intro v hSw; have y0:=(F5.out _ hSw).2; have y1:=(hSw.cell (p:=⟨b,o+i * 2+1,none⟩) (block_lt_of_cell K1.out)).trans K1.out; go_simp<;>rfl)
   try simp only [putS]
   refine rgO 9 fun K hK=>?_
   go_simp
   refine (FL.out _ W0.out).mono ?_
   rintro e w2 ⟨rfl,k2,hk⟩
   have W2:=qh (show Below w1.heap.size w1 w2 by rw [hk]; exact below_drewN W0.out k2)
   have R2:=qh (show Below wr.heap.size wr w2 by rw [hk]; exact below_drewN (below_drew (Below.refl _ _)) k2)
   clear hk
   refine hK.out _ _ (W2.out) (fun gH=>?_)
   clear hK K
   try simp only [putS]
   refine rgO 10 fun K hK=>?_
   go_simp
   refine (CS.out _ W2.out).mono ?_
   rintro e w3 ⟨A2,c2,rfl,sv,loc,hb3⟩
   have hb3':=W2.out.trans (hb3.mono W2.out.size)
   have W3:=qh hb3'
   have R3:=qh (R2.out.trans (hb3.mono R2.out.size))
   have SV:=qh sv
   have LOC:=qh loc
   clear sv loc hb3
   refine hK.out _ _ (hb3') (fun gH=>?_)
   clear hK K
   refine rgT 11 (v:=?v10) ?y10 gH ?_
   case y10=>(intro v hSw; have y0:=(F5.out _ hSw).2; have y1:=(hSw.cell (p:=⟨b,o+i * 2+1,none⟩) (block_lt_of_cell K1.out)).trans K1.out; go_simp<;>rfl)
   try simp only [putS]
   refine rgD ?_
   clear h5 W0 W2 hb3' CS
   by_cases dz:d=0
   ·subst dz
    have e:=ET.out
    rw [if_pos rfl] at e
    have ET:=qh e
    have O3:=qh (HO.out.below R3.out)
    have Z3:=qh (HZ.out.below R3.out)
    clear e
    go_wp2_with fail
    go_roundw
    case rel=>exact ⟨i+1,v,zs,rfl,by go_num,by omega,O3,by rw [ET.out]; exact Z3,W3⟩
    case measure=>simp [intOf]; omega
   ·have e:=ET.out
    rw [if_neg dz] at e
    have ET:=qh e
    have dp:0<d:=Nat.pos_of_ne_zero dz
    have O4:=qh ((HO.out.below R3.out).alloc (.cells #[.string x,.slice A2 d c2] 139))
    have ra:Below w3.heap.size w3 (w3.alloc (.cells #[.string x,.slice A2 d c2] 139)):=(Below.refl _ _).alloc (Nat.le_refl _) _
    have s4:SlVG (w3.alloc (.cells #[.string x,.slice A2 d c2] 139)) (Gn (fun _=>False) w1.heap.size v) A2 D:=⟨SV.out.below ra,fun hp=>by
     obtain ⟨g,o,e,hg⟩:=LOC.out (by rw [HD.out]; exact hp)
     have h2:=R2.out.size
     have h1:=HW.out.size
     refine ⟨g,o,e,.inr ⟨by omega,fun e2=>?_⟩⟩
     have:=(HO.out.lt g e2).2
     omega⟩
    have z4:=((HZ.out.below R3.out).below ra).snoc (k:=x) (c:=c2) s4
    rw [<-HD.out] at z4
    have Z4:=qh z4
    have W4:=qh (W3.out.alloc W3.out.size (.cells #[.string x,.slice A2 d c2] 139))
    have HV:=qh (fun k (hk:v.ownBlock=some k)=>(HO.out.lt k hk).1)
    have k0:=(W3.out.cell (p:=⟨b,o+i * 2,none⟩) (block_lt_of_cell K0.out)).trans K0.out
    have h5:=(F5.out _ W3.out).2
    clear e ra s4 z4
    go_wp2_with (at_builtin; refine wp_putZ rfl (.tmp 33) (.tmp 44) rfl v zs rfl O4.out W4.out.size w3.heap.size (x,.slice A2 d c2) rfl rfl (fun j _=>(RowAt.new w3 [.string x,.slice A2 d c2] _).cell j) LN.out ?_; intro v' w6 ho hg h4; have O6:=qh ho; have Z6:=qh (Z4.out.grown hg h4 (fun _ f=>f.elim) HV.out); have W6:=qh (W4.out.grown hg W4.out.size HV.out); clear ho hg h4)
    go_roundw
    case rel=>exact ⟨i+1,v',zs++[(x,.slice A2 d c2)],rfl,by go_num,by omega,O6,by rw [ET.out]; exact Z6,W6⟩
    case measure=>simp [intOf]; omega
  ·obtain rfl:i=n:=by omega
   have hz:=HZ.out
   rw [HN.out,List.take_length] at hz
   have h5:=F5.out _ HW.out
   obtain ⟨A',c',hv',sl'⟩:=HO.out.sl (hz.mono (G':=fun y=>w1.heap.size<=y) (fun k e=>by rcases e with e | e; exact e.elim; exact e.1)) (fun k e=>e)
   obtain ⟨d,hd⟩:=nmq ((L.swept f).length)
   have FW:=FI.out wr A' c' HW.out sl'
   rw [<-hd] at hv' FW
   subst hv'
   have f5:=h5.1
   have h5:=h5.2
   obtain ⟨w5,hw5⟩:=nmq (wr.setCell ⟨p,5,none⟩ (.slice A' d c'))
   rw [<-hw5] at FW
   obtain ⟨_,v5,G5,A5,c5',hr5,_⟩:=id FW
   have V2:=qh (rVers1 p G5 A5 c5' (L.swept f) w5 hr5.c5 hr5.sl GS.out)
   rw [<-HU.out] at V2
   have FW:=qh FW
   have H5:=qh hw5
   clear hz sl' hd hr5 hw5
   go_wp2_with fail
   rw [<-H5.out]
   refine V2.out.mono ?_
   rintro e w6 ⟨rfl,rfl⟩
   go_wp2_with fail
   go_ret
   exact ⟨rfl,FW.out⟩

end Go.Proofs.YtbfgpdgiaclphaaGreat

namespace Go.Proofs.YtbfgpdgiaclphaaGreat
open Go.RowKit

theorem infoEn:(Tryz.prog.info? 67).map (fun i=>(i.zero,i.size,i.bytes))=some (some En.Z.v,5,56):=by kernel_rfl
def ecs (l:List En):List Value:=l.flatMap En.cs
def OwnEn (w:World) (B:Nat) (v:Value) (l:List En):Prop:=w.ownsRow B 67 5 v l.length (ecs l)
section
variable {w w':World} {B:Nat} {v:Value} {l:List En}
theorem OwnEn.sl (h:OwnEn w B v l):∃ A c,v=.slice A l.length c∧SlEn w A l:=by
 have h1:=h
 unfold OwnEn at h1
 rcases h.2 with ⟨rfl,h0⟩ | ⟨g,cap,cur,rfl,hB,hg,_⟩
 ·exact ⟨none,0,by rw [h0],fun hp=>by omega⟩
 ·refine ⟨_,cap,rfl,fun hp=>⟨g,0,rfl,(Array.getElem?_eq_some_iff.1 hg).1,fun j hj=>?_⟩⟩
  have at_:∀ i,i<5->w.cell? ⟨g,j * 5+i,none⟩=(l.getD j En.Z).cs[i]?:=fun i hi=>by
   rw [h1.cellAt (j * 5+i) (by omega),List.getD_eq_getElem?_getD,List.getElem?_eq_getElem hj]
   exact flat_at (f:=En.cs) (n:=5) (fun _=>rfl) l j i hj hi
  rw [Nat.zero_add]
  exact ⟨at_ 0 (by decide),at_ 1 (by decide),at_ 2 (by decide),at_ 3 (by decide),at_ 4 (by decide)⟩
theorem OwnEn.below (h:OwnEn w B v l) (hb:Below w.heap.size w w'):OwnEn w' B v l:=by
 rcases h with ⟨h1,h2⟩
 refine ⟨h1,?_⟩
 rcases h2 with ⟨rfl,h0⟩ | ⟨g,cap,cur,rfl,hB,hg,r⟩
 ·exact .inl ⟨rfl,h0⟩
 ·refine .inr ⟨g,cap,cur,rfl,hB,?_,r⟩
  have hl:g<w.heap.size:=(Array.getElem?_eq_some_iff.1 hg).1
  rw [hb.block g hl]; exact hg
theorem OwnEn.alloc (h:OwnEn w B v l) (o:Obj):OwnEn (w.alloc o) B v l:=World.ownsRow.alloc h o
theorem OwnEn.lt (h:OwnEn w B v l):∀ k,v.ownBlock=some k->B<=k∧k<w.heap.size:=World.ownsRow.lt h
theorem OwnEn.made (w:World) (hB:B<=w.heap.size):OwnEn (w.alloc (.cells #[] 67)) B (.slice (some ⟨w.heap.size,0,none⟩) 0 0) [] :=
 World.ownsRow_made w #[] 0 hB (Nat.zero_le _) (by simp)
end
theorem step_putE {ops:Array Oper} {o:Oper} {a:Act} {w:World} {K:Act->World->Prop} {Q:Exit->Act->World->Prop} {E:Prop}
  (hg:o.guard=none) (s x:Operand) (hop:o.op=.call { callee:=.builtin .append,args:=#[s,x],argTypes:=#[63,63] })
  (B:Nat) (v:Value) (zs:List En) (y:En) (hs:a.eval s=v) (hown:OwnEn w B v zs) (b:Nat) (hx:a.eval x=.slice (some ⟨b,0,none⟩) 1 1) (hc:∀ i,i<5->w.cell? ⟨b,i,none⟩=y.cs[i]?)
  (hl:zs.length<=1000000) (hB:B<=w.heap.size)
  (hK:∀ v' w',OwnEn w' B v' (zs++[y])->w.grownBy w' v.ownBlock->Below B w w'->K (a.put o.dst v') w') :
  if Region.wanted o (yielded ops a.tmps)=true then Oper.wp Tryz.prog o a w K Q else E:=by
 have hw:Region.wanted o (yielded ops a.tmps)=true:=by simp [Region.wanted,hg]
 rw [if_pos hw]
 obtain ⟨i0,hi,hz0,hz1,hz2⟩:=info_parts infoEn
 have key:∃ v' w',(Builtin.append_ #[63,63] o.type #[v,.slice (some ⟨b,0,none⟩) 1 1]).run Tryz.prog w=.ok v' w'∧OwnEn w' B v' (zs++[y])∧w.grownBy w' v.ownBlock∧Below B w w':=by
  obtain ⟨v',w',hr,h2,h3,_,_⟩:=run_append_own_at (P:=Tryz.prog) w B 63 o.type 67 i0 _ 5 56 Tryz.underlying63 hi hz0 hz1 hz2 rfl (by decide) v zs.length _ hown ⟨b,0,none⟩ 1 1 y.cs rfl
   (fun j u hj=>by
    have hj5:j<5:=(List.getElem?_eq_some_iff.1 hj).1
    rw [show (⟨b,0,none⟩:Addr).add j=⟨b,j,none⟩ by simp [Addr.add]; omega,hc j hj5,hj]) (fun u hu=>by
    unfold En.cs at hu
    simp at hu
    rcases hu with rfl | rfl | rfl | rfl | rfl<;>rfl) (by unfold maxLen; omega) (by omega) hB
  refine ⟨v',w',hr,?_,h3,(Below.refl _ _).grown h3 hB (fun k hk=>(hown.lt k hk).1)⟩
  have e:ecs zs++y.cs=ecs (zs++[y]):=by unfold ecs; simp
  rw [e] at h2
  unfold OwnEn
  rw [List.length_append]
  exact h2
 obtain ⟨v',w',hr,h2,h4,h3⟩:=key
 unfold Oper.wp execOp
 simp only [hop,resolve,invoke,builtin,Sem.run_bind,Sem.run_pure,Result.andThen_ok,List.map_toArray,List.map_cons,List.map_nil,hs,hx,hr]
 exact hK _ _ h2 h4 h3

theorem ents_succ (L:Ch) (s:Int) {i:Nat} (hi:i<L.length):Ch.ents (L.take (i+1)) s=if atOk (L.chn i) s=true then Ch.ents (L.take i) s++[⟨L.key i,(atL (L.chn i) s).seq,(atL (L.chn i) s).val⟩] else Ch.ents (L.take i) s:=by
 unfold Ch.ents
 rw [List.take_succ_eq_append_getElem hi,List.filterMap_append,Ch.getE L hi]
 cases z:atOk (L.chn i) s with
 | true=>rw [if_pos rfl]; simp [z]
 | false=>rw [if_neg (by simp)]; simp [z]
theorem ents_len (L:Ch) (s:Int):(L.ents s).length<=L.length:=by unfold Ch.ents; exact List.length_filterMap_le _ _
theorem verC {w:World} {g:Nat} {x:Ver} {t:TypeId} (h:RowAt w g x.cs t):w.cell? ⟨g,0,none⟩=some (.int .i64 x.seq)∧w.cell? ⟨g,2,none⟩=some (.bool x.val.num)∧w.cell? ⟨g,3,none⟩=some (.string x.val.txt)∧w.cell? ⟨g,4,none⟩=some (.int .u64 (x.val.bits:Int)) :=
 ⟨h.cell 0,h.cell 2,h.cell 3,h.cell 4⟩
theorem zeroG {w:World} {g:Nat} {t:TypeId} (h:RowAt w g Ver.Z.cs t):(w.frozen? ⟨g,0,none⟩=false∧w.frozen? ⟨g,1,none⟩=false∧w.frozen? ⟨g,2,none⟩=false∧w.frozen? ⟨g,3,none⟩=false∧w.frozen? ⟨g,4,none⟩=false) ∧
  w.cell? ⟨g,0,none⟩=some (.int .i64 0)∧w.cell? ⟨g,1,none⟩=some (.bool false)∧w.cell? ⟨g,2,none⟩=some (.bool false)∧w.cell? ⟨g,3,none⟩=some (.string ⟨#[]⟩)∧w.cell? ⟨g,4,none⟩=some (.int .u64 0) :=
 ⟨⟨h.frozen 0,h.frozen 1,h.frozen 2,h.frozen 3,h.frozen 4⟩,h.cell 0,h.cell 1,h.cell 2,h.cell 3,h.cell 4⟩

theorem rEntries1 (p q:Nat) (v lb:Value) (g2 g3:Int) (r:Rg) (G:Nat->Prop) (A:Option Addr) (c:Nat) (L:Ch) (w:World) (h:RoomG w p q v lb g2 g3 r G A c L) (ok:r.Ok) (hL:GoodC L) (hn:L.length<=10000) :
  Calls Tryz.prog 75 #[.pointer (some ⟨p,0,none⟩)] w fun e w'=>∃ A' c',e=.returned (.slice A' (L.ents (r.seq:Int)).length c')∧SlEn w' A' (L.ents (r.seq:Int))∧Below w.heap.size w w':=by
 have SQ:=qh (fun W (b:Below w.heap.size w W)=>rSeq1 p q v lb _ _ g2 g3 r W (h.below b).row (h.below b).ring ok)
 obtain ⟨s,hs⟩:=nmq ((r.seq:Int))
 rw [<-hs]
 simp only [<-hs] at SQ
 have SW:=qh (fun i (hi:i<L.length)=>by
  obtain ⟨bb,o,A',c',e,hb,hg,k0,k1,sv⟩:=h.sl.at hi
  obtain ⟨g1,g2,g3,g4,g5⟩:=hL.get hi
  exact (show ∃ bb o A' c',A=some ⟨bb,o,none⟩∧w.cell? ⟨bb,o+i * 2,none⟩=some (.string (L.key i))∧w.cell? ⟨bb,o+i * 2+1,none⟩=some (.slice A' (L.chn i).length c') ∧
   ∀ W,Below w.heap.size w W->Calls Tryz.prog 68 #[.slice A' (L.chn i).length c',.int .i64 s] W fun e w'=>e=.returned (.tuple #[(atL (L.chn i) s).v,.bool (atOk (L.chn i) s)])∧Below W.heap.size W w' from
   ⟨bb,o,A',c',e,k0,k1,fun W b=>rAt9 (L.chn i) A' c' s W (sv.1.below b) g5 g3⟩))
 have F5:=qh (fun W (b:Below w.heap.size w W)=>(h.below b).c5)
 have ST:=qh (fun i (hi:i<L.length)=>ents_succ L s hi)
 have SL:=qh (fun i=>Nat.le_trans (ents_len (L.take i) s) (by rw [List.length_take]; exact Nat.min_le_right _ _))
 obtain ⟨n,hn2⟩:=nmq (L.length)
 simp only [<-hn2] at SW F5 ST SL
 rw [<-hn2] at hn
 have HN:=qh hn2
 clear h ok hL hs hn2
 have O0:=qh (OwnEn.made w (Nat.le_refl _))
 have B0:=qh ((Below.refl w.heap.size w).alloc (Nat.le_refl _) (.cells #[] 67))
 go_enter Tryz.func75,Tryz.ntmps75
 go_wp2_with fail
 go_loopw [3,4] (fun vo vi wr=>∃ (i:Nat) (v:Value),v=vo∧vi=.int .i64 i∧i<=n∧Hid (OwnEn wr w.heap.size v (Ch.ents (L.take i) s))∧Hid (Below w.heap.size w wr)) (fun _ vi _=>n-(intOf vi).toNat)
 case atStart=>exact ⟨0,_,rfl,rfl,Nat.zero_le _,qh (by rw [List.take_zero]; exact O0.out),B0⟩
 case round =>
  obtain ⟨i,v,rfl,rfl,hi,HO,HW⟩:=hrel
  by_cases z:i<n
  ·have h5:=F5.out _ HW.out
   obtain ⟨b,o,A',c',rfl,k0,k1,CS⟩:=SW.out i z
   have K0:=qh k0
   have K1:=qh k1
   have CS:=qh CS
   have ET:=qh (ST.out i z)
   have LN:=qh (show (Ch.ents (L.take i) s).length<=1000000 by have:=SL.out i; omega)
   obtain ⟨m,hm⟩:=nmq ((L.chn i).length)
   rw [<-hm] at K1 CS k1
   obtain ⟨y,hy⟩:=nmq (atL (L.chn i) s)
   obtain ⟨Y,hY⟩:=nmq (atOk (L.chn i) s)
   simp only [<-hy,<-hY] at CS ET
   have CS:Hid (∀ W,Below w.heap.size w W->Calls Tryz.prog 68 #[.slice A' m c',.int .i64 s] W fun e w'=>e=.returned (.tuple #[.agg #[.int .i64 y.seq,.bool y.gone,.bool y.val.num,.string y.val.txt,.int .u64 (y.val.bits:Int)],.bool Y])∧Below W.heap.size W w'):=CS
   obtain ⟨x,hx⟩:=nmq (L.key i)
   rw [<-hx] at K0 k0 ET
   have i0:(0:Int)<=(i:Int):=by omega
   have i1:(i:Int)<(n:Int):=by omega
   clear hm hy hY hx k0 k1
   go_wp2_with fail
   have W0:=qh (below_drew HW.out)
   have R0:=qh (below_drew (Below.refl wr.heap.size wr))
   refine wp_region_held_drew (S:=(Below w.heap.size w)) (by kernel_rfl) (W0.out) (fun gH=>?_)
   refine rgT 0 (v:=?v1) ?y1 gH ?_
   case y1=>(intro v hSw; have y0:=F5.out _ hSw; have y1:=(hSw.cell (p:=⟨b,o+i * 2+1,none⟩) (block_lt_of_cell K1.out)).trans K1.out; go_simp<;>rfl)
   refine rgT 1 (v:=?v2) ?y2 gH ?_
   case y2=>(intro v hSw; have y0:=F5.out _ hSw; have y1:=(hSw.cell (p:=⟨b,o+i * 2+1,none⟩) (block_lt_of_cell K1.out)).trans K1.out; go_simp<;>rfl)
   refine rgT 2 (v:=?v3) ?y3 gH ?_
   case y3=>(intro v hSw; have y0:=F5.out _ hSw; have y1:=(hSw.cell (p:=⟨b,o+i * 2+1,none⟩) (block_lt_of_cell K1.out)).trans K1.out; go_simp<;>rfl)
   try simp only [putS]
   refine rgT 3 (v:=?v4) ?y4 gH ?_
   case y4=>(intro v hSw; have y0:=F5.out _ hSw; have y1:=(hSw.cell (p:=⟨b,o+i * 2+1,none⟩) (block_lt_of_cell K1.out)).trans K1.out; go_simp<;>rfl)
   refine rgT 4 (v:=?v5) ?y5 gH ?_
   case y5=>(intro v hSw; have y0:=F5.out _ hSw; have y1:=(hSw.cell (p:=⟨b,o+i * 2+1,none⟩) (block_lt_of_cell K1.out)).trans K1.out; go_simp<;>rfl)
   refine rgT 5 (v:=?v6) ?y6 gH ?_
   case y6=>(intro v hSw; have y0:=F5.out _ hSw; have y1:=(hSw.cell (p:=⟨b,o+i * 2+1,none⟩) (block_lt_of_cell K1.out)).trans K1.out; go_simp<;>rfl)
   try simp only [putS]
   refine rgT 6 (v:=?v7) ?y7 gH ?_
   case y7=>(intro v hSw; have y0:=F5.out _ hSw; have y1:=(hSw.cell (p:=⟨b,o+i * 2+1,none⟩) (block_lt_of_cell K1.out)).trans K1.out; go_simp<;>rfl)
   refine rgT 7 (v:=?v8) ?y8 gH ?_
   case y8=>(intro v hSw; have y0:=F5.out _ hSw; have y1:=(hSw.cell (p:=⟨b,o+i * 2+1,none⟩) (block_lt_of_cell K1.out)).trans K1.out; go_simp<;>rfl)
   refine rgT 8 (v:=?v9) ?y9 gH ?_
   case y9=>(intro v hSw; have y0:=F5.out _ hSw; have y1:=(hSw.cell (p:=⟨b,o+i * 2+1,none⟩) (block_lt_of_cell K1.out)).trans K1.out; go_simp<;>rfl)
   try simp only [putS]
   refine rgnTwo 9 14 rfl rfl (by kernel_rfl) (fun K hK=>?_) (fun K hK=>?_)
   ·go_simp
    refine (SQ.out _ W0.out).mono ?_
    rintro e w2 ⟨rfl,k2,hk⟩
    have W2:=qh (show Below w.heap.size w w2 by rw [hk]; exact below_drewN W0.out k2)
    have R2:=qh (show Below wr.heap.size wr w2 by rw [hk]; exact below_drewN R0.out k2)
    refine hK.out _ _ W2.out (fun gH=>?_)
    clear hK K hk
    try simp only [putS]
    refine rgnTwo 10 14 rfl rfl (by kernel_rfl) (fun K hK=>?_) (fun K hK=>?_)
    ·go_simp
     refine (CS.out _ W2.out).mono ?_
     rintro e w3 ⟨rfl,hb3⟩
     have W3:=qh (W2.out.trans (hb3.mono W2.out.size))
     have R3:=qh (R2.out.trans (hb3.mono R2.out.size))
     refine hK.out _ _ W3.out (fun gH=>?_)
     clear hK K hb3
     try simp only [putS]
     have RQ:=qh (show RowAt (w3.alloc (.cells #[.int .i64 y.seq,.bool y.gone,.bool y.val.num,.string y.val.txt,.int .u64 (y.val.bits:Int)] 132)) w3.heap.size y.cs 132 from RowAt.new w3 y.cs 132)
     have WQ:=qh (W3.out.alloc W3.out.size (.cells #[.int .i64 y.seq,.bool y.gone,.bool y.val.num,.string y.val.txt,.int .u64 (y.val.bits:Int)] 132))
     have RR:=qh (R3.out.alloc R3.out.size (.cells #[.int .i64 y.seq,.bool y.gone,.bool y.val.num,.string y.val.txt,.int .u64 (y.val.bits:Int)] 132))
     refine rgT 11 (v:=?v10) ?y10 gH ?_
     case y10=>(intro v hSw; have y0:=F5.out _ hSw; have y1:=(hSw.cell (p:=⟨b,o+i * 2+1,none⟩) (block_lt_of_cell K1.out)).trans K1.out; go_simp<;>rfl)
     refine rgT 12 (v:=?v11) ?y11 gH ?_
     case y11=>(intro v hSw; have y0:=F5.out _ hSw; have y1:=(hSw.cell (p:=⟨b,o+i * 2+1,none⟩) (block_lt_of_cell K1.out)).trans K1.out; go_simp<;>rfl)
     refine rgT 13 (v:=?v12) ?y12 gH ?_
     case y12=>(intro v hSw; have y0:=F5.out _ hSw; have y1:=(hSw.cell (p:=⟨b,o+i * 2+1,none⟩) (block_lt_of_cell K1.out)).trans K1.out; go_simp<;>rfl)
     try simp only [putS]
     refine rgO 14 fun K hK=>?_
     go_simp
     refine hK.out _ _ (W3.out.alloc W3.out.size _) (fun gH=>?_)
     clear hK K
     try simp only [putS]
     refine rgO 15 fun K hK=>?_
     go_simp
     refine hK.out _ _ (WQ.out) (fun gH=>?_)
     clear hK K
     refine rgT 16 (v:=?v13) ?y13 gH ?_
     case y13=>(intro v hSw; have y0:=F5.out _ hSw; have y1:=(hSw.cell (p:=⟨b,o+i * 2+1,none⟩) (block_lt_of_cell K1.out)).trans K1.out; go_simp<;>rfl)
     try simp only [putS]
     refine rgD ?_
     have QB:=qh (show wr.heap.size<=w3.heap.size from R3.out.size)
     clear W3 R3
     generalize w3.alloc (.cells #[.int .i64 y.seq,.bool y.gone,.bool y.val.num,.string y.val.txt,.int .u64 (y.val.bits:Int)] 132)=W at RQ WQ RR ⊢
     generalize w3.heap.size=q at RQ QB ⊢
     have HOq:=qh (HO.out.below RR.out)
     have h5:=F5.out _ WQ.out
     have k0:=(WQ.out.cell (p:=⟨b,o+i * 2,none⟩) (block_lt_of_cell K0.out)).trans K0.out
     have VC:=qh (verC RQ.out)
     cases Y with
     | false =>
      have e:=ET.out
      rw [if_neg (by simp)] at e
      have ET:=qh e
      clear e
      go_wp2_with fail
      go_roundw
      case rel=>exact ⟨i+1,v,rfl,by go_num,by omega,by rw [ET.out]; exact HOq,WQ⟩
      case measure=>simp [intOf]; omega
     | true =>
      have e:=ET.out
      rw [if_pos rfl] at e
      have ET:=qh e
      have H5:=qh h5
      have K9:=qh k0
      clear e
      go_wp2_with fail
      clear h5 k0
      refine wp_region_held_drew (S:=(fun w'=>w'.cell? ⟨p,5,none⟩=some (.slice (some ⟨b,o,none⟩) n c)∧w'.cell? ⟨b,o+i * 2,none⟩=some (.string x)∧w'.cell? ⟨q,0,none⟩=some (.int .i64 y.seq)∧w'.cell? ⟨q,2,none⟩=some (.bool y.val.num)∧w'.cell? ⟨q,3,none⟩=some (.string y.val.txt)∧w'.cell? ⟨q,4,none⟩=some (.int .u64 (y.val.bits:Int)))) (by kernel_rfl) (⟨H5.out,K9.out,VC.out⟩) (fun gH=>?_)
      refine rgT 0 (v:=?v14) ?y14 gH ?_
      case y14=>(intro v hSw; go_simp<;>rfl)
      refine rgT 1 (v:=?v15) ?y15 gH ?_
      case y15=>(intro v hSw; go_simp<;>rfl)
      refine rgT 2 (v:=?v16) ?y16 gH ?_
      case y16=>(intro v hSw; go_simp<;>rfl)
      try simp only [putS]
      refine rgT 3 (v:=?v17) ?y17 gH ?_
      case y17=>(intro v hSw; go_simp<;>rfl)
      refine rgT 4 (v:=?v18) ?y18 gH ?_
      case y18=>(intro v hSw; go_simp<;>rfl)
      refine rgT 5 (v:=?v19) ?y19 gH ?_
      case y19=>(intro v hSw; go_simp<;>rfl)
      try simp only [putS]
      refine rgT 6 (v:=?v20) ?y20 gH ?_
      case y20=>(intro v hSw; go_simp<;>rfl)
      refine rgT 7 (v:=?v21) ?y21 gH ?_
      case y21=>(intro v hSw; go_simp<;>rfl)
      refine rgT 8 (v:=?v22) ?y22 gH ?_
      case y22=>(intro v hSw; go_simp<;>rfl)
      try simp only [putS]
      refine rgT 9 (v:=?v23) ?y23 gH ?_
      case y23=>(intro v hSw; go_simp<;>rfl)
      refine rgT 10 (v:=?v24) ?y24 gH ?_
      case y24=>(intro v hSw; go_simp<;>rfl)
      refine rgT 11 (v:=?v25) ?y25 gH ?_
      case y25=>(intro v hSw; go_simp<;>rfl)
      try simp only [putS]
      refine rgT 12 (v:=?v26) ?y26 gH ?_
      case y26=>(intro v hSw; go_simp<;>rfl)
      refine rgT 13 (v:=?v27) ?y27 gH ?_
      case y27=>(intro v hSw; go_simp<;>rfl)
      try simp only [putS]
      have WA:=qh (WQ.out.alloc WQ.out.size (.cells #[.string x,.int .i64 y.seq,.bool y.val.num,.string y.val.txt,.int .u64 (y.val.bits:Int)] 67))
      have RA:=qh (RQ.out.alloc (.cells #[.string x,.int .i64 y.seq,.bool y.val.num,.string y.val.txt,.int .u64 (y.val.bits:Int)] 67))
      have HA:=qh (show _∧_∧_ from ⟨F5.out _ WA.out,(WA.out.cell (p:=⟨b,o+i * 2,none⟩) (block_lt_of_cell K0.out)).trans K0.out,verC RA.out⟩)
      have OA:=qh (HOq.out.alloc (.cells #[.string x,.int .i64 y.seq,.bool y.val.num,.string y.val.txt,.int .u64 (y.val.bits:Int)] 67))
      refine rgO 14 fun K hK=>?_
      go_simp
      refine hK.out _ _ (HA.out) (fun gH=>?_)
      clear hK K
      try simp only [putS]
      refine rgO 15 fun K hK=>?_
      refine step_putE rfl (.tmp 32) (.tmp 46) rfl w.heap.size v _ ⟨x,y.seq,y.val⟩ rfl OA.out W.heap.size rfl (fun j _=>(RowAt.new W (En.cs ⟨x,y.seq,y.val⟩) _).cell j) LN.out WA.out.size ?_
      intro v' w7 ho hgr hb7
      have W7:=qh ((below_drew WA.out).trans hb7)
      have O7:=qh ho
      have R7:=qh (show RowAt w7 q y.cs 132 from (hgr.block q RA.out.lt (fun e=>by
       have h1:=(HO.out.lt q e.symm).2
       have h2:=QB.out
       omega)).trans RA.out)
      clear ho hgr hb7
      refine hK.out _ _ ⟨F5.out _ W7.out,(W7.out.cell (p:=⟨b,o+i * 2,none⟩) (block_lt_of_cell K0.out)).trans K0.out,verC R7.out⟩ (fun gH=>?_)
      clear hK K
      refine rgT 16 (v:=?v28) ?y28 gH ?_
      case y28=>(intro v hSw; go_simp<;>rfl)
      try simp only [putS]
      refine rgD ?_
      go_wp2_with fail
      go_roundw
      case rel=>exact ⟨i+1,v',rfl,by go_num,by omega,by rw [ET.out]; exact O7,W7⟩
      case measure=>simp [intOf]; omega
    ·go_simp
     have r3:=RowAt.new w2 Ver.Z.cs 132
     have W3:=qh (W2.out.alloc W2.out.size (.cells #[.int .i64 0,.bool false,.bool false,.string ⟨#[]⟩,.int .u64 0] 132))
     have R3:=qh (R2.out.alloc R2.out.size (.cells #[.int .i64 0,.bool false,.bool false,.string ⟨#[]⟩,.int .u64 0] 132))
     refine hK.out _ _ W3.out (fun gH=>?_)
     clear hK K
     try simp only [putS]
     refine rgO 10 fun K hK=>?_
     go_simp
     refine (CS.out _ W3.out).mono ?_
     rintro e w4 ⟨rfl,hb4⟩
     have W4:=qh (W3.out.trans (hb4.mono W3.out.size))
     have R4:=qh (R3.out.trans (hb4.mono R3.out.size))
     have RZ:=qh (show RowAt w4 w2.heap.size Ver.Z.cs 132 from r3.below hb4)
     refine hK.out _ _ (W4.out) (fun gH=>?_)
     clear hK K
     try simp only [putS]
     obtain ⟨q,hq⟩:=nmq (w2.heap.size)
     have QB:=qh (show wr.heap.size<=q by rw [hq]; exact R2.out.size)
     rw [<-hq] at RZ ⊢
     clear hb4 r3 W3 R3 hq
     have F4:=zeroG RZ.out
     obtain ⟨⟨f0,f1,f2,f3,f4⟩,z0,z1,z2,z3,z4⟩:=F4
     have RQ:=qh (show RowAt (((((w4.setCell ⟨q,0,none⟩ (.int .i64 y.seq)).setCell ⟨q,1,none⟩ (.bool y.gone)).setCell ⟨q,2,none⟩ (.bool y.val.num)).setCell ⟨q,3,none⟩ (.string y.val.txt)).setCell ⟨q,4,none⟩ (.int .u64 (y.val.bits:Int))) q y.cs 132 from setV_row RZ.out)
     have WQ:=qh (show Below w.heap.size w (((((w4.setCell ⟨q,0,none⟩ (.int .i64 y.seq)).setCell ⟨q,1,none⟩ (.bool y.gone)).setCell ⟨q,2,none⟩ (.bool y.val.num)).setCell ⟨q,3,none⟩ (.string y.val.txt)).setCell ⟨q,4,none⟩ (.int .u64 (y.val.bits:Int))) from setV_below W4.out (Nat.le_trans HW.out.size QB.out))
     have RR:=qh (show Below wr.heap.size wr (((((w4.setCell ⟨q,0,none⟩ (.int .i64 y.seq)).setCell ⟨q,1,none⟩ (.bool y.gone)).setCell ⟨q,2,none⟩ (.bool y.val.num)).setCell ⟨q,3,none⟩ (.string y.val.txt)).setCell ⟨q,4,none⟩ (.int .u64 (y.val.bits:Int))) from setV_below R4.out QB.out)
     refine rgT 11 (v:=?v29) ?y29 gH ?_
     case y29=>(intro v hSw; have y0:=F5.out _ hSw; have y1:=(hSw.cell (p:=⟨b,o+i * 2+1,none⟩) (block_lt_of_cell K1.out)).trans K1.out; go_simp<;>rfl)
     refine rgT 12 (v:=?v30) ?y30 gH ?_
     case y30=>(intro v hSw; have y0:=F5.out _ hSw; have y1:=(hSw.cell (p:=⟨b,o+i * 2+1,none⟩) (block_lt_of_cell K1.out)).trans K1.out; go_simp<;>rfl)
     refine rgT 13 (v:=?v31) ?y31 gH ?_
     case y31=>(intro v hSw; have y0:=F5.out _ hSw; have y1:=(hSw.cell (p:=⟨b,o+i * 2+1,none⟩) (block_lt_of_cell K1.out)).trans K1.out; go_simp<;>rfl)
     try simp only [putS]
     refine rgO 15 fun K hK=>?_
     go_simp
     refine hK.out _ _ (WQ.out) (fun gH=>?_)
     clear hK K
     refine rgT 16 (v:=?v32) ?y32 gH ?_
     case y32=>(intro v hSw; have y0:=F5.out _ hSw; have y1:=(hSw.cell (p:=⟨b,o+i * 2+1,none⟩) (block_lt_of_cell K1.out)).trans K1.out; go_simp<;>rfl)
     try simp only [putS]
     refine rgD ?_
     clear f0 f1 f2 f3 f4 z0 z1 z2 z3 z4 RZ W4 R4
     generalize (((((w4.setCell ⟨q,0,none⟩ (.int .i64 y.seq)).setCell ⟨q,1,none⟩ (.bool y.gone)).setCell ⟨q,2,none⟩ (.bool y.val.num)).setCell ⟨q,3,none⟩ (.string y.val.txt)).setCell ⟨q,4,none⟩ (.int .u64 (y.val.bits:Int)))=W at RQ WQ RR ⊢
     have HOq:=qh (HO.out.below RR.out)
     have h5:=F5.out _ WQ.out
     have k0:=(WQ.out.cell (p:=⟨b,o+i * 2,none⟩) (block_lt_of_cell K0.out)).trans K0.out
     have VC:=qh (verC RQ.out)
     cases Y with
     | false =>
      have e:=ET.out
      rw [if_neg (by simp)] at e
      have ET:=qh e
      clear e
      go_wp2_with fail
      go_roundw
      case rel=>exact ⟨i+1,v,rfl,by go_num,by omega,by rw [ET.out]; exact HOq,WQ⟩
      case measure=>simp [intOf]; omega
     | true =>
      have e:=ET.out
      rw [if_pos rfl] at e
      have ET:=qh e
      have H5:=qh h5
      have K9:=qh k0
      clear e
      go_wp2_with fail
      clear h5 k0
      refine wp_region_held_drew (S:=(fun w'=>w'.cell? ⟨p,5,none⟩=some (.slice (some ⟨b,o,none⟩) n c)∧w'.cell? ⟨b,o+i * 2,none⟩=some (.string x)∧w'.cell? ⟨q,0,none⟩=some (.int .i64 y.seq)∧w'.cell? ⟨q,2,none⟩=some (.bool y.val.num)∧w'.cell? ⟨q,3,none⟩=some (.string y.val.txt)∧w'.cell? ⟨q,4,none⟩=some (.int .u64 (y.val.bits:Int)))) (by kernel_rfl) (⟨H5.out,K9.out,VC.out⟩) (fun gH=>?_)
      refine rgT 0 (v:=?v33) ?y33 gH ?_
      case y33=>(intro v hSw; go_simp<;>rfl)
      refine rgT 1 (v:=?v34) ?y34 gH ?_
      case y34=>(intro v hSw; go_simp<;>rfl)
      refine rgT 2 (v:=?v35) ?y35 gH ?_
      case y35=>(intro v hSw; go_simp<;>rfl)
      try simp only [putS]
      refine rgT 3 (v:=?v36) ?y36 gH ?_
      case y36=>(intro v hSw; go_simp<;>rfl)
      refine rgT 4 (v:=?v37) ?y37 gH ?_
      case y37=>(intro v hSw; go_simp<;>rfl)
      refine rgT 5 (v:=?v38) ?y38 gH ?_
      case y38=>(intro v hSw; go_simp<;>rfl)
      try simp only [putS]
      refine rgT 6 (v:=?v39) ?y39 gH ?_
      case y39=>(intro v hSw; go_simp<;>rfl)
      refine rgT 7 (v:=?v40) ?y40 gH ?_
      case y40=>(intro v hSw; go_simp<;>rfl)
      refine rgT 8 (v:=?v41) ?y41 gH ?_
      case y41=>(intro v hSw; go_simp<;>rfl)
      try simp only [putS]
      refine rgT 9 (v:=?v42) ?y42 gH ?_
      case y42=>(intro v hSw; go_simp<;>rfl)
      refine rgT 10 (v:=?v43) ?y43 gH ?_
      case y43=>(intro v hSw; go_simp<;>rfl)
      refine rgT 11 (v:=?v44) ?y44 gH ?_
      case y44=>(intro v hSw; go_simp<;>rfl)
      try simp only [putS]
      refine rgT 12 (v:=?v45) ?y45 gH ?_
      case y45=>(intro v hSw; go_simp<;>rfl)
      refine rgT 13 (v:=?v46) ?y46 gH ?_
      case y46=>(intro v hSw; go_simp<;>rfl)
      try simp only [putS]
      have WA:=qh (WQ.out.alloc WQ.out.size (.cells #[.string x,.int .i64 y.seq,.bool y.val.num,.string y.val.txt,.int .u64 (y.val.bits:Int)] 67))
      have RA:=qh (RQ.out.alloc (.cells #[.string x,.int .i64 y.seq,.bool y.val.num,.string y.val.txt,.int .u64 (y.val.bits:Int)] 67))
      have HA:=qh (show _∧_∧_ from ⟨F5.out _ WA.out,(WA.out.cell (p:=⟨b,o+i * 2,none⟩) (block_lt_of_cell K0.out)).trans K0.out,verC RA.out⟩)
      have OA:=qh (HOq.out.alloc (.cells #[.string x,.int .i64 y.seq,.bool y.val.num,.string y.val.txt,.int .u64 (y.val.bits:Int)] 67))
      refine rgO 14 fun K hK=>?_
      go_simp
      refine hK.out _ _ (HA.out) (fun gH=>?_)
      clear hK K
      try simp only [putS]
      refine rgO 15 fun K hK=>?_
      refine step_putE rfl (.tmp 32) (.tmp 46) rfl w.heap.size v _ ⟨x,y.seq,y.val⟩ rfl OA.out W.heap.size rfl (fun j _=>(RowAt.new W (En.cs ⟨x,y.seq,y.val⟩) _).cell j) LN.out WA.out.size ?_
      intro v' w7 ho hgr hb7
      have W7:=qh ((below_drew WA.out).trans hb7)
      have O7:=qh ho
      have R7:=qh (show RowAt w7 q y.cs 132 from (hgr.block q RA.out.lt (fun e=>by
       have h1:=(HO.out.lt q e.symm).2
       have h2:=QB.out
       omega)).trans RA.out)
      clear ho hgr hb7
      refine hK.out _ _ ⟨F5.out _ W7.out,(W7.out.cell (p:=⟨b,o+i * 2,none⟩) (block_lt_of_cell K0.out)).trans K0.out,verC R7.out⟩ (fun gH=>?_)
      clear hK K
      refine rgT 16 (v:=?v47) ?y47 gH ?_
      case y47=>(intro v hSw; go_simp<;>rfl)
      try simp only [putS]
      refine rgD ?_
      go_wp2_with fail
      go_roundw
      case rel=>exact ⟨i+1,v',rfl,by go_num,by omega,by rw [ET.out]; exact O7,W7⟩
      case measure=>simp [intOf]; omega
   ·go_simp
    have r1:RowAt (wr.alloc (.cells #[.int .i64 0,.bool false,.bool false,.string ⟨#[]⟩,.int .u64 0] 132)).drew wr.heap.size Ver.Z.cs 132:=RowAt.new wr Ver.Z.cs 132
    have W1:=qh (below_drew (HW.out.alloc HW.out.size (.cells #[.int .i64 0,.bool false,.bool false,.string ⟨#[]⟩,.int .u64 0] 132)))
    have R1:=qh (below_drew ((Below.refl wr.heap.size wr).alloc (Nat.le_refl _) (.cells #[.int .i64 0,.bool false,.bool false,.string ⟨#[]⟩,.int .u64 0] 132)))
    generalize (wr.alloc (.cells #[.int .i64 0,.bool false,.bool false,.string ⟨#[]⟩,.int .u64 0] 132)).drew=w1 at r1 W1 R1 ⊢
    refine hK.out _ _ W1.out (fun gH=>?_)
    clear hK K
    try simp only [putS]
    refine rgO 9 fun K hK=>?_
    go_simp
    refine (SQ.out _ W1.out).mono ?_
    rintro e w2 ⟨rfl,k2,hk⟩
    have W2:=qh (show Below w.heap.size w w2 by rw [hk]; exact below_drewN W1.out k2)
    have R2:=qh (show Below wr.heap.size wr w2 by rw [hk]; exact below_drewN R1.out k2)
    have r2:RowAt w2 wr.heap.size Ver.Z.cs 132:=(by rw [hk]; exact r1.drewN k2)
    clear hk
    refine hK.out _ _ (W2.out) (fun gH=>?_)
    clear hK K
    try simp only [putS]
    refine rgO 10 fun K hK=>?_
    go_simp
    refine (CS.out _ W2.out).mono ?_
    rintro e w4 ⟨rfl,hb4⟩
    have W4:=qh (W2.out.trans (hb4.mono W2.out.size))
    have R4:=qh (R2.out.trans (hb4.mono R2.out.size))
    have RZ:=qh (show RowAt w4 wr.heap.size Ver.Z.cs 132 from r2.below hb4)
    refine hK.out _ _ (W4.out) (fun gH=>?_)
    clear hK K
    try simp only [putS]
    obtain ⟨q,hq⟩:=nmq (wr.heap.size)
    have QB:=qh (show wr.heap.size<=q by rw [hq]; exact Nat.le_refl _)
    rw [<-hq] at RZ ⊢
    clear hb4 r1 r2 hq
    have F4:=zeroG RZ.out
    obtain ⟨⟨f0,f1,f2,f3,f4⟩,z0,z1,z2,z3,z4⟩:=F4
    have RQ:=qh (show RowAt (((((w4.setCell ⟨q,0,none⟩ (.int .i64 y.seq)).setCell ⟨q,1,none⟩ (.bool y.gone)).setCell ⟨q,2,none⟩ (.bool y.val.num)).setCell ⟨q,3,none⟩ (.string y.val.txt)).setCell ⟨q,4,none⟩ (.int .u64 (y.val.bits:Int))) q y.cs 132 from setV_row RZ.out)
    have WQ:=qh (show Below w.heap.size w (((((w4.setCell ⟨q,0,none⟩ (.int .i64 y.seq)).setCell ⟨q,1,none⟩ (.bool y.gone)).setCell ⟨q,2,none⟩ (.bool y.val.num)).setCell ⟨q,3,none⟩ (.string y.val.txt)).setCell ⟨q,4,none⟩ (.int .u64 (y.val.bits:Int))) from setV_below W4.out (Nat.le_trans HW.out.size QB.out))
    have RR:=qh (show Below wr.heap.size wr (((((w4.setCell ⟨q,0,none⟩ (.int .i64 y.seq)).setCell ⟨q,1,none⟩ (.bool y.gone)).setCell ⟨q,2,none⟩ (.bool y.val.num)).setCell ⟨q,3,none⟩ (.string y.val.txt)).setCell ⟨q,4,none⟩ (.int .u64 (y.val.bits:Int))) from setV_below R4.out QB.out)
    refine rgT 11 (v:=?v48) ?y48 gH ?_
    case y48=>(intro v hSw; have y0:=F5.out _ hSw; have y1:=(hSw.cell (p:=⟨b,o+i * 2+1,none⟩) (block_lt_of_cell K1.out)).trans K1.out; go_simp<;>rfl)
    refine rgT 12 (v:=?v49) ?y49 gH ?_
    case y49=>(intro v hSw; have y0:=F5.out _ hSw; have y1:=(hSw.cell (p:=⟨b,o+i * 2+1,none⟩) (block_lt_of_cell K1.out)).trans K1.out; go_simp<;>rfl)
    refine rgT 13 (v:=?v50) ?y50 gH ?_
    case y50=>(intro v hSw; have y0:=F5.out _ hSw; have y1:=(hSw.cell (p:=⟨b,o+i * 2+1,none⟩) (block_lt_of_cell K1.out)).trans K1.out; go_simp<;>rfl)
    try simp only [putS]
    refine rgO 15 fun K hK=>?_
    go_simp
    refine hK.out _ _ (WQ.out) (fun gH=>?_)
    clear hK K
    refine rgT 16 (v:=?v51) ?y51 gH ?_
    case y51=>(intro v hSw; have y0:=F5.out _ hSw; have y1:=(hSw.cell (p:=⟨b,o+i * 2+1,none⟩) (block_lt_of_cell K1.out)).trans K1.out; go_simp<;>rfl)
    try simp only [putS]
    refine rgD ?_
    clear f0 f1 f2 f3 f4 z0 z1 z2 z3 z4 RZ W4 R4
    generalize (((((w4.setCell ⟨q,0,none⟩ (.int .i64 y.seq)).setCell ⟨q,1,none⟩ (.bool y.gone)).setCell ⟨q,2,none⟩ (.bool y.val.num)).setCell ⟨q,3,none⟩ (.string y.val.txt)).setCell ⟨q,4,none⟩ (.int .u64 (y.val.bits:Int)))=W at RQ WQ RR ⊢
    have HOq:=qh (HO.out.below RR.out)
    have h5:=F5.out _ WQ.out
    have k0:=(WQ.out.cell (p:=⟨b,o+i * 2,none⟩) (block_lt_of_cell K0.out)).trans K0.out
    have VC:=qh (verC RQ.out)
    cases Y with
    | false =>
     have e:=ET.out
     rw [if_neg (by simp)] at e
     have ET:=qh e
     clear e
     go_wp2_with fail
     go_roundw
     case rel=>exact ⟨i+1,v,rfl,by go_num,by omega,by rw [ET.out]; exact HOq,WQ⟩
     case measure=>simp [intOf]; omega
    | true =>
     have e:=ET.out
     rw [if_pos rfl] at e
     have ET:=qh e
     have H5:=qh h5
     have K9:=qh k0
     clear e
     go_wp2_with fail
     clear h5 k0
     refine wp_region_held_drew (S:=(fun w'=>w'.cell? ⟨p,5,none⟩=some (.slice (some ⟨b,o,none⟩) n c)∧w'.cell? ⟨b,o+i * 2,none⟩=some (.string x)∧w'.cell? ⟨q,0,none⟩=some (.int .i64 y.seq)∧w'.cell? ⟨q,2,none⟩=some (.bool y.val.num)∧w'.cell? ⟨q,3,none⟩=some (.string y.val.txt)∧w'.cell? ⟨q,4,none⟩=some (.int .u64 (y.val.bits:Int)))) (by kernel_rfl) (⟨H5.out,K9.out,VC.out⟩) (fun gH=>?_)
     refine rgT 0 (v:=?v52) ?y52 gH ?_
     case y52=>(intro v hSw; go_simp<;>rfl)
     refine rgT 1 (v:=?v53) ?y53 gH ?_
     case y53=>(intro v hSw; go_simp<;>rfl)
     refine rgT 2 (v:=?v54) ?y54 gH ?_
     case y54=>(intro v hSw; go_simp<;>rfl)
     try simp only [putS]
     refine rgT 3 (v:=?v55) ?y55 gH ?_
     case y55=>(intro v hSw; go_simp<;>rfl)
     refine rgT 4 (v:=?v56) ?y56 gH ?_
     case y56=>(intro v hSw; go_simp<;>rfl)
     refine rgT 5 (v:=?v57) ?y57 gH ?_
     case y57=>(intro v hSw; go_simp<;>rfl)
     try simp only [putS]
     refine rgT 6 (v:=?v58) ?y58 gH ?_
     case y58=>(intro v hSw; go_simp<;>rfl)
     refine rgT 7 (v:=?v59) ?y59 gH ?_
     case y59=>(intro v hSw; go_simp<;>rfl)
     refine rgT 8 (v:=?v60) ?y60 gH ?_
     case y60=>(intro v hSw; go_simp<;>rfl)
     try simp only [putS]
     refine rgT 9 (v:=?v61) ?y61 gH ?_
     case y61=>(intro v hSw; go_simp<;>rfl)
     refine rgT 10 (v:=?v62) ?y62 gH ?_
     case y62=>(intro v hSw; go_simp<;>rfl)
     refine rgT 11 (v:=?v63) ?y63 gH ?_
     case y63=>(intro v hSw; go_simp<;>rfl)
     try simp only [putS]
     refine rgT 12 (v:=?v64) ?y64 gH ?_
     case y64=>(intro v hSw; go_simp<;>rfl)
     refine rgT 13 (v:=?v65) ?y65 gH ?_
     case y65=>(intro v hSw; go_simp<;>rfl)
     try simp only [putS]
     have WA:=qh (WQ.out.alloc WQ.out.size (.cells #[.string x,.int .i64 y.seq,.bool y.val.num,.string y.val.txt,.int .u64 (y.val.bits:Int)] 67))
     have RA:=qh (RQ.out.alloc (.cells #[.string x,.int .i64 y.seq,.bool y.val.num,.string y.val.txt,.int .u64 (y.val.bits:Int)] 67))
     have HA:=qh (show _∧_∧_ from ⟨F5.out _ WA.out,(WA.out.cell (p:=⟨b,o+i * 2,none⟩) (block_lt_of_cell K0.out)).trans K0.out,verC RA.out⟩)
     have OA:=qh (HOq.out.alloc (.cells #[.string x,.int .i64 y.seq,.bool y.val.num,.string y.val.txt,.int .u64 (y.val.bits:Int)] 67))
     refine rgO 14 fun K hK=>?_
     go_simp
     refine hK.out _ _ (HA.out) (fun gH=>?_)
     clear hK K
     try simp only [putS]
     refine rgO 15 fun K hK=>?_
     refine step_putE rfl (.tmp 32) (.tmp 46) rfl w.heap.size v _ ⟨x,y.seq,y.val⟩ rfl OA.out W.heap.size rfl (fun j _=>(RowAt.new W (En.cs ⟨x,y.seq,y.val⟩) _).cell j) LN.out WA.out.size ?_
     intro v' w7 ho hgr hb7
     have W7:=qh ((below_drew WA.out).trans hb7)
     have O7:=qh ho
     have R7:=qh (show RowAt w7 q y.cs 132 from (hgr.block q RA.out.lt (fun e=>by
      have h1:=(HO.out.lt q e.symm).2
      have h2:=QB.out
      omega)).trans RA.out)
     clear ho hgr hb7
     refine hK.out _ _ ⟨F5.out _ W7.out,(W7.out.cell (p:=⟨b,o+i * 2,none⟩) (block_lt_of_cell K0.out)).trans K0.out,verC R7.out⟩ (fun gH=>?_)
     clear hK K
     refine rgT 16 (v:=?v66) ?y66 gH ?_
     case y66=>(intro v hSw; go_simp<;>rfl)
     try simp only [putS]
     refine rgD ?_
     go_wp2_with fail
     go_roundw
     case rel=>exact ⟨i+1,v',rfl,by go_num,by omega,by rw [ET.out]; exact O7,W7⟩
     case measure=>simp [intOf]; omega
  ·obtain rfl:i=n:=by omega
   have h5:=F5.out _ HW.out
   have ho:=HO.out
   rw [HN.out,List.take_length] at ho
   obtain ⟨A',c',rfl,hsl⟩:=ho.sl
   have SE:=qh hsl
   obtain ⟨d,hd⟩:=nmq ((L.ents s).length)
   have HD:=qh hd
   rw [<-hd]
   clear ho hsl hd
   go_wp2_with fail
   go_ret
   exact ⟨A',c',by rw [<-HD.out]; rfl,SE.out,HW.out⟩

end Go.Proofs.YtbfgpdgiaclphaaGreat

namespace Go.Proofs.YtbfgpdgiaclphaaGreat
open Go.RowKit

theorem step_putZ {w:World} {B:Nat} {ops:Array Oper} {o:Oper} {a:Act} {K:Act->World->Prop} {Q:Exit->Act->World->Prop} {E:Prop} (hgd:o.guard=none) (s x:Operand)
  (ho:o.op=.call { callee:=.builtin .append,args:=#[s,x],argTypes:=#[42,42] })
  (v:Value) (zs:Zs) (hs:a.eval s=v) (hown:OwnZ w B v zs) (hB:B<=w.heap.size) (g:Nat) (y:ByteArray × Value) (hx:a.eval x=.slice (some ⟨g,0,none⟩) 1 1)
  (hy:y.2.oneCell'=true) (hc:∀ i,i<2->w.cell? ⟨g,i,none⟩=(zc y)[i]?) (hl:zs.length<=1000000)
  (hK:∀ v' w',OwnZ w' B v' (zs++[y])->w.grownBy w' v.ownBlock->(v'.ownBlock=v.ownBlock∨v'.ownBlock=some w.heap.size)->K (a.put o.dst v') w') :
  if Region.wanted o (yielded ops a.tmps)=true then Oper.wp Tryz.prog o a w K Q else E:=by
 have hw:Region.wanted o (yielded ops a.tmps)=true:=by simp [Region.wanted,hgd]
 rw [if_pos hw]
 obtain ⟨i0,hi,hz0,hz1,hz2⟩:=info_parts infoOne
 obtain ⟨v',w',hr,h2,h3,_,h4⟩:=run_append_own_at (P:=Tryz.prog) w B 42 o.type 139 i0 _ 2 40 Tryz.underlying42 hi hz0 hz1 hz2 rfl (by decide) v zs.length _ hown ⟨g,0,none⟩ 1 1 (zc y) rfl
  (fun j u hj=>by
   have hj5:j<2:=(List.getElem?_eq_some_iff.1 hj).1
   rw [show (⟨g,0,none⟩:Addr).add j=⟨g,j,none⟩ by simp [Addr.add]; omega,hc j hj5,hj]) (fun u hu=>by
   unfold zc at hu
   simp at hu
   rcases hu with rfl | rfl
   ·rfl
   ·exact hy) (by unfold maxLen; omega) (by omega) hB
 have e:zcs zs++zc y=zcs (zs++[y]):=by unfold zcs; simp
 rw [e] at h2
 have h2':OwnZ w' B v' (zs++[y]):=by unfold OwnZ; rw [List.length_append]; exact h2
 unfold Oper.wp execOp
 simp only [ho,resolve,invoke,builtin,Sem.run_bind,Sem.run_pure,Result.andThen_ok,List.map_toArray,List.map_cons,List.map_nil,hs,hx,hr]
 exact hK _ _ h2' h3 h4

def enOk (p:Option ByteArray) (sq:Int) (x:En):Bool:=keyOk x.key && (x.val.ok && (decide (1<=x.seq) && (decide (x.seq<=sq) && (match p with | none=>true | some k=>ltB k x.key))))
def prevE (l:List En) (i:Nat):Option ByteArray:=if i=0 then none else some (l.getD (i-1) En.Z).key
def mayE (l:List En) (sq:Int):Bool:=(List.range l.length).all fun i=>enOk (prevE l i) sq (l.getD i En.Z)
theorem mayE_no {l:List En} {sq:Int} {i:Nat} (hi:i<l.length) (h:enOk (prevE l i) sq (l.getD i En.Z)=false):mayE l sq=false:=by
 cases q:mayE l sq with
 | false=>rfl
 | true =>
  unfold mayE at q
  simp only [List.all_eq_true,List.mem_range] at q
  have:=q i hi
  rw [h] at this; cases this
theorem mayE_yes {l:List En} {sq:Int} (h:∀ j,j<l.length->enOk (prevE l j) sq (l.getD j En.Z)=true):mayE l sq=true:=by
 unfold mayE
 simp only [List.all_eq_true,List.mem_range]
 exact h
theorem prevE_succ (l:List En) (i:Nat):prevE l (i+1)=some (l.getD i En.Z).key:=by
 unfold prevE
 rw [if_neg (by omega),Nat.add_sub_cancel]
def En.ver (x:En):Ver:=⟨x.seq,false,x.val⟩
def loadL (l:List En):Ch:=l.map fun x=>(x.key,[x.ver])
theorem loadL_succ (l:List En) {i:Nat} (hi:i<l.length):loadL (l.take (i+1))=loadL (l.take i)++[((l.getD i En.Z).key,[(l.getD i En.Z).ver])]:=by
 unfold loadL
 rw [List.take_succ_eq_append_getElem hi,List.map_append,List.getD_eq_getElem?_getD,List.getElem?_eq_getElem hi]
 rfl
theorem loadL_len (l:List En):(loadL l).length=l.length:=by unfold loadL; rw [List.length_map]
def ldE (zs:List Int) (g1 g2 g3 sq:Int) (l:List En):Int :=
 if (stOk zs g1 g2 g3 && (decide (0<=sq) && decide (sq<=g3)))=false then 1 else if mayE l sq=false then 1 else if g2<((loadL l).live:Int) then 15 else 0
def FitsE (l:List En):Prop:=∀ x,x ∈ l->x.val.Fits∧x.key.size<=1000∧x.val.txt.size<=1000
theorem FitsE.get {l:List En} (h:FitsE l) {i:Nat} (hi:i<l.length):(l.getD i En.Z).val.Fits∧(l.getD i En.Z).key.size<=1000∧(l.getD i En.Z).val.txt.size<=1000:=by
 rw [List.getD_eq_getElem?_getD,List.getElem?_eq_getElem hi]
 exact h _ (List.getElem_mem hi)
theorem loadL_key (l:List En) {i:Nat} (hi:i<l.length):(loadL l).key i=(l.getD i En.Z).key:=by
 unfold Ch.key loadL
 rw [List.getD_eq_getElem?_getD,List.getD_eq_getElem?_getD,List.getElem?_map,List.getElem?_eq_getElem hi]; rfl
theorem loadL_rise {l:List En} {sq:Int} (h:mayE l sq=true):(loadL l).Rise:=by
 unfold mayE at h
 simp only [List.all_eq_true,List.mem_range] at h
 have step:∀ j,j+1<l.length->ltB (l.getD j En.Z).key (l.getD (j+1) En.Z).key=true:=fun j hj=>by
  have:=h (j+1) hj
  rw [prevE_succ] at this
  unfold enOk at this
  simp only [Bool.and_eq_true] at this
  exact this.2.2.2.2
 have all:∀ d i,i+d+1<l.length->ltB (l.getD i En.Z).key (l.getD (i+d+1) En.Z).key=true:=fun d=>by
  induction d with
  | zero=>exact fun i hi=>step i hi
  | succ d ih=>exact fun i hi=>ltB_trans (ih i (by omega)) (step (i+d+1) (by omega))
 refine List.pairwise_iff_getElem.2 fun i j hi hj hij=>?_
 rw [Ch.getE _ hi,Ch.getE _ hj]
 rw [loadL_len] at hi hj
 show ltB ((loadL l).key i) ((loadL l).key j)=true
 rw [loadL_key l hi,loadL_key l hj]
 have:=all (j-i-1) i (by omega)
 rwa [show i+(j-i-1)+1=j by omega] at this
theorem loadL_good {l:List En} {sq:Int} (h:mayE l sq=true) (hf:FitsE l) (hl:l.length<=10000):GoodC (loadL l):=by
 have mem:∀ x,x ∈ loadL l->∃ y,y ∈ l∧x=(y.key,[y.ver]):=fun x hx=>by
  obtain ⟨y,hy,rfl⟩:=List.mem_map.1 hx
  exact ⟨y,hy,rfl⟩
 refine ⟨by rw [loadL_len]; omega,fun x hx=>?_,fun x hx y hy=>?_,fun x hx=>?_,fun x hx=>?_,loadL_rise h,fun x hx=>?_⟩
 ·obtain ⟨y,hy,rfl⟩:=mem x hx
  intro z hz
  simp at hz
  subst hz
  exact (hf y hy).1
 ·obtain ⟨z,hz,rfl⟩:=mem x hx
  simp at hy
  subst hy
  exact (hf z hz).2.2
 ·obtain ⟨y,hy,rfl⟩:=mem x hx
  exact Nat.le_trans (Nat.le_refl 1) (by decide)
 ·obtain ⟨y,hy,rfl⟩:=mem x hx
  exact (hf y hy).2.1
 ·obtain ⟨y,hy,rfl⟩:=mem x hx
  intro i j hij hj
  simp at hj
  omega
def LoadP (w:World) (lb:Value) (g1 g2 g3 sq:Int) (L:Ch) (x q:Nat) (G:Nat->Prop) (A':Option Addr) (c':Nat) (w':World):Prop :=
 w.heap.size<=x∧w.heap.size<=q∧(∀ k,G k->w.heap.size<=k)∧RoomG w' x q (.slice none 0 0) lb g2 g3 ⟨g1.toNat,sq.toNat,[]⟩ G A' c' L∧SepR x q (.slice none 0 0) G

theorem OwnZ.keepk {w w':World} {B:Nat} {v:Value} {zs:Zs} (h:OwnZ w B v zs) (hk:∀ k,v.ownBlock=some k->w'.heap[k]?=w.heap[k]?):OwnZ w' B v zs:=by
 refine ⟨h.1,?_⟩
 rcases h.2 with hn | ⟨g,cap,cur,rfl,hB,hg,r⟩
 ·exact .inl hn
 ·exact .inr ⟨g,cap,cur,rfl,hB,(hk g rfl).trans hg,r⟩
section
variable {w w1 w7:World} {x q B N1 b0:Nat} {g2 g3:Int} {lb v v':Value} {rg:Rg} {cs:List Value} {t0:TypeId} {zs:Zs} {L:Ch} {k:ByteArray} {y:Ver}
theorem load_pre (O:OwnZ w1 B v zs) (hB:B<=w1.heap.size) :
  OwnZ ((w1.alloc (.cells y.cs.toArray 132)).alloc (.cells #[.string k,.slice (some ⟨w1.heap.size,0,none⟩) 1 1] 139)) B v zs ∧
  B<=((w1.alloc (.cells y.cs.toArray 132)).alloc (.cells #[.string k,.slice (some ⟨w1.heap.size,0,none⟩) 1 1] 139)).heap.size ∧
  ∀ j,j<2->((w1.alloc (.cells y.cs.toArray 132)).alloc (.cells #[.string k,.slice (some ⟨w1.heap.size,0,none⟩) 1 1] 139)).cell? ⟨w1.heap.size+1,j,none⟩=(zc (k,.slice (some ⟨w1.heap.size,0,none⟩) 1 1))[j]?:=by
 refine ⟨(O.alloc _).alloc _,by simp; omega,fun j _=>?_⟩
 have r:=RowAt.new (w1.alloc (.cells y.cs.toArray 132)) [.string k,.slice (some ⟨w1.heap.size,0,none⟩) 1 1] 139
 rw [show (w1.alloc (.cells y.cs.toArray 132)).heap.size=w1.heap.size+1 by simp] at r
 exact r.cell j
theorem load_step (hx:x<B) (hq:q<B) (hb:b0<B) (hxq:x≠q) (hbx:b0≠x) (hwx:w.heap.size<=x) (hB:B<=w1.heap.size) (hw:Below w.heap.size w w1)
  (X:RowAt w1 x (rmc lb (N1:Int) g2 g3 q v) 44) (G:RefG w1 q (.slice none 0 0) rg) (R:RowAt w1 b0 cs t0) (O:OwnZ w1 B v zs) (Z:ZL w1 (Gn (fun _=>False) B v) zs L)
  (ho:OwnZ w7 B v' (zs++[(k,.slice (some ⟨w1.heap.size,0,none⟩) 1 1)]))
  (hg:((w1.alloc (.cells y.cs.toArray 132)).alloc (.cells #[.string k,.slice (some ⟨w1.heap.size,0,none⟩) 1 1] 139)).grownBy w7 v.ownBlock)
  (h4:v'.ownBlock=v.ownBlock∨v'.ownBlock=some ((w1.alloc (.cells y.cs.toArray 132)).alloc (.cells #[.string k,.slice (some ⟨w1.heap.size,0,none⟩) 1 1] 139)).heap.size) :
  RowAt w7 x (rmc lb (N1:Int) g2 g3 q v) 44∧Below w.heap.size w w7 ∧
  RowAt (w7.setCell ⟨x,5,none⟩ v') x (rmc lb (N1:Int) g2 g3 q v') 44∧RefG (w7.setCell ⟨x,5,none⟩ v') q (.slice none 0 0) rg∧RowAt (w7.setCell ⟨x,5,none⟩ v') b0 cs t0 ∧
  OwnZ (w7.setCell ⟨x,5,none⟩ v') B v' (zs++[(k,.slice (some ⟨w1.heap.size,0,none⟩) 1 1)])∧ZL (w7.setCell ⟨x,5,none⟩ v') (Gn (fun _=>False) B v') (zs++[(k,.slice (some ⟨w1.heap.size,0,none⟩) 1 1)]) (L++[(k,[y])]) ∧
  (Below w.heap.size w (w7.setCell ⟨x,5,none⟩ v')∧B<=(w7.setCell ⟨x,5,none⟩ v').heap.size):=by
 have ba:Below w1.heap.size w1 ((w1.alloc (.cells y.cs.toArray 132)).alloc (.cells #[.string k,.slice (some ⟨w1.heap.size,0,none⟩) 1 1] 139)) :=
  ((Below.refl _ _).alloc (Nat.le_refl _) _).alloc (by simp) _
 have sz:((w1.alloc (.cells y.cs.toArray 132)).alloc (.cells #[.string k,.slice (some ⟨w1.heap.size,0,none⟩) 1 1] 139)).heap.size=w1.heap.size+2:=by simp
 have hv:∀ j,v.ownBlock=some j->B<=j∧j<w1.heap.size:=fun j e=>O.lt j e
 have hv':∀ j,v'.ownBlock=some j->B<=j:=fun j e=>(ho.lt j e).1
 have r5:RowAt ((w1.alloc (.cells y.cs.toArray 132)).alloc (.cells #[.string k,.slice (some ⟨w1.heap.size,0,none⟩) 1 1] 139)) w1.heap.size y.cs 132:=(RowAt.new w1 y.cs _).alloc _
 have s5:SlVG ((w1.alloc (.cells y.cs.toArray 132)).alloc (.cells #[.string k,.slice (some ⟨w1.heap.size,0,none⟩) 1 1] 139)) (Gn (fun _=>False) B v) (some ⟨w1.heap.size,0,none⟩) [y] :=
  ⟨slV_row r5,fun _=>⟨w1.heap.size,0,rfl,.inr ⟨hB,fun e=>by have:=(hv _ e).2; omega⟩⟩⟩
 have z6:=((Z.below ba).snoc (k:=k) (c:=1) s5).grown hg h4 (fun _ f=>f.elim) (fun j e=>(hv j e).1)
 generalize (w1.alloc (.cells y.cs.toArray 132)).alloc (.cells #[.string k,.slice (some ⟨w1.heap.size,0,none⟩) 1 1] 139)=w5 at ba sz hg r5 s5 z6 h4
 have old:∀ j,j<B->w7.heap[j]?=w1.heap[j]?:=fun j hj=>(hg.block j (by omega) (fun e=>by have:=(hv j e.symm).1; omega)).trans (ba.block j (by omega))
 have ns:∀ j,j≠x->(w7.setCell ⟨x,5,none⟩ v').heap[j]?=w7.heap[j]?:=fun j e=>Below.heap_setCell _ _ _ _ e
 have x7:RowAt w7 x (rmc lb (N1:Int) g2 g3 q v) 44:=(old x hx).trans X
 have b7:Below w.heap.size w w7:=(hw.trans (ba.mono hw.size)).grown hg (by have:=hw.size; have:=ba.size; omega) (fun j e=>by have:=(hv j e).1; omega)
 have s8:(w7.setCell ⟨x,5,none⟩ v').heap.size=w7.heap.size:=by simp
 have g7:w1.heap.size<=w7.heap.size:=by have:=hg.size; omega
 refine ⟨x7,b7,x7.set 5 v',G.keep fun j e=>?_,?_,ho.keepk fun j e=>ns j (by have:=hv' j e; omega),z6.keep (fun j e=>ns j ?_) (Nat.le_of_eq s8.symm),b7.setCell hwx _,by rw [s8]; omega⟩
 ·rcases e with e | e
  ·rw [e,ns q (fun e=>hxq e.symm),old q hq]
  ·cases e
 ·exact ((ns b0 hbx).trans (old b0 hb)).trans R
 ·rcases e with e | e
  ·exact e.elim
  ·omega
end


end Go.Proofs.YtbfgpdgiaclphaaGreat

namespace Go.Proofs.YtbfgpdgiaclphaaGreat
open Go.RowKit

theorem rLoad1 (A:Option Addr) (c:Nat) (zs:List Int) (g1 g2 g3 sq:Int) (l:List En) (A2:Option Addr) (c2:Nat) (w:World) (h:Sl w A zs) (hm:zs.length<=maxLen) (hu:La.U64 zs) (he:SlEn w A2 l) (hf:FitsE l) (hl:l.length<=10000) :
  Calls Tryz.prog 39 #[.agg #[.slice A zs.length c,.int .i64 g1,.int .i64 g2,.int .i64 g3],.int .i64 sq,.slice A2 l.length c2] w fun e w'=>Below w.heap.size w w' ∧
   ((ldE zs g1 g2 g3 sq l≠0∧e=.returned (.tuple #[.pointer none,.int .i64 (ldE zs g1 g2 g3 sq l)])) ∨
    (ldE zs g1 g2 g3 sq l=0∧∃ x q G A' c',e=.returned (.tuple #[.pointer (some ⟨x,0,none⟩),.int .i64 0])∧LoadP w (.slice A zs.length c) g1 g2 g3 sq (loadL l) x q G A' c' w')):=by
 obtain ⟨T,hT⟩:=nmq (ldE zs g1 g2 g3 sq l)
 obtain ⟨R,hR⟩:=nmq (stOk zs g1 g2 g3)
 have eT:T=if (R && (decide (0<=sq) && decide (sq<=g3)))=false then 1 else if mayE l sq=false then 1 else if g2<((loadL l).live:Int) then 15 else 0:=by rw [hT,hR]; rfl
 have st1:R=true->1<=g1:=fun q=>by
  rw [hR] at q
  unfold stOk at q
  simp only [Bool.and_eq_true,decide_eq_true_eq] at q
  exact q.2.1
 rw [<-hT]
 obtain ⟨m,hm2⟩:=nmq (zs.length)
 have b0:Below w.heap.size w (w.alloc (.cells #[.slice A zs.length c,.int .i64 g1,.int .i64 g2,.int .i64 g3] 24)):=(Below.refl _ _).alloc (Nat.le_refl _) _
 have CR:=qh (rRight1 A c zs g1 g2 g3 _ (h.below b0) hm hu)
 have r0:=RowAt.new w [.slice A zs.length c,.int .i64 g1,.int .i64 g2,.int .i64 g3] 24
 rw [<-hR] at CR
 rw [<-hm2] at CR b0 r0 ⊢
 have R0:=qh r0
 have B0:=qh b0
 obtain ⟨n,hn⟩:=nmq (l.length)
 rw [<-hn] at hl ⊢
 have HN:=qh hn
 have HS:=qh he
 have HF:=qh hf
 have ET:=qh eT
 have ST1:=qh st1
 clear h hm hu he hf hT hR hm2 b0 r0 hn eT st1
 go_enter Tryz.func39,Tryz.ntmps39
 go_wp2_with fail
 refine CR.out.mono ?_
 rintro e w1 ⟨rfl,hb1⟩
 have R1:=qh (R0.out.below hb1)
 have B1:=qh (below_then B0.out hb1)
 clear hb1 CR
 cases R with
 | false =>
  have e:=ET.out
  rw [if_pos (by simp)] at e
  subst e
  go_wp2_with fail
  go_ret2
  exact ⟨B1.out,.inl ⟨by decide,rfl⟩⟩
 | true =>
 cases d1:decide ((0:Int)<=sq) with
 | false =>
  have p1:sq<0:=by have:=of_decide_eq_false d1; omega
  have p1':decide (sq<0)=true:=decide_eq_true p1
  have e:=ET.out
  rw [if_pos (by rw [d1]; simp)] at e
  subst e
  clear d1
  go_wp2_with fail
  go_ret2
  exact ⟨B1.out,.inl ⟨by decide,rfl⟩⟩
 | true =>
 have p1:¬ sq<0:=by have:=of_decide_eq_true d1; omega
 have p1':decide (sq<0)=false:=decide_eq_false p1
 have c0:=R1.out.cell 0
 have c1:=R1.out.cell 1
 have c2':=R1.out.cell 2
 have c3:=R1.out.cell 3
 simp only [geS] at c0 c1 c2' c3
 cases d2:decide (sq<=g3) with
 | false =>
  have p2:g3<sq:=by have:=of_decide_eq_false d2; omega
  have p2':decide (g3<sq)=true:=decide_eq_true p2
  have e:=ET.out
  rw [if_pos (by rw [d2]; simp)] at e
  subst e
  clear d1 d2
  go_wp2_with fail
  go_ret2
  exact ⟨B1.out,.inl ⟨by decide,rfl⟩⟩
 | true =>
 have p2:¬ g3<sq:=by have:=of_decide_eq_true d2; omega
 have p2':decide (g3<sq)=false:=decide_eq_false p2
 have ET:=qh (show T=if mayE l sq=false then 1 else if g2<((loadL l).live:Int) then 15 else 0 from by have:=ET.out; rwa [if_neg (by rw [d1,d2]; simp)] at this)
 have g11:=ST1.out rfl
 obtain ⟨N1,rfl⟩:∃ N1:Nat,g1=(N1:Int):=⟨g1.toNat,by omega⟩
 obtain ⟨S0,rfl⟩:∃ S0:Nat,sq=(S0:Int):=⟨sq.toNat,by omega⟩
 have CN:=qh (rNew1 (.slice A m c) N1 S0 g2 g3 w1)
 clear d1 d2 ST1 g11 B0 R0
 go_wp2_with fail
 refine CN.out.mono ?_
 rintro e w2 ⟨x,q,rfl,hx,hq,hr,hs,hb2⟩
 obtain ⟨B,hB⟩:=nmq (w2.heap.size)
 have R2:=qh (R1.out.below hb2)
 have B2:=qh (below_then B1.out hb2)
 have HX:=qh (show w.heap.size<x∧x<B∧w.heap.size<=q∧q<B∧x≠q∧w.heap.size<B by
  have h1:=B1.out.size
  have h2:=hr.row.lt
  have h3:=hr.ring.row.lt
  have h4:x≠q:=fun e=>hs.1 (.inl e)
  have h5:=R2.out.lt
  have h6:=R1.out.lt
  omega)
 have G2:=qh hr.ring
 have X2:=qh hr.row
 have O2:=qh (show OwnZ w2 B (.slice none 0 0) [] from World.ownsRow_nil _ _ _ _)
 clear hr hs hb2 hx hq CN R1 B1 c0 c1 c2' c3
 have EL:=qh (show mayE l (S0:Int)=false->T=1 from fun e=>by rw [ET.out,if_pos e])
 go_wp2_with fail
 go_loopw [9] (fun vi wr=>∃ (i:Nat) (v:Value) (zs':Zs),i<=n∧vi=.int .i64 i∧Hid (∀ j,j<i->enOk (prevE l j) (S0:Int) (l.getD j En.Z)=true)∧Hid (RowAt wr x (rmc (.slice A m c) (N1:Int) g2 g3 q v) 44)∧Hid (RefG wr q (.slice none 0 0) ⟨N1,S0,[]⟩) ∧
  Hid (RowAt wr w.heap.size [.slice A m c,.int .i64 (N1:Int),.int .i64 g2,.int .i64 g3] 24)∧Hid (OwnZ wr B v zs')∧Hid (ZL wr (Gn (fun _=>False) B v) zs' (loadL (l.take i)))∧Hid (Below w.heap.size w wr∧B<=wr.heap.size)) (fun vi _=>n-(intOf vi).toNat)
 case atStart=>exact ⟨0,.slice none 0 0,[],Nat.zero_le _,rfl,qh (fun j hj=>by cases hj),X2,G2,R2,O2,qh (ZL.nil _ _),qh ⟨B2.out,Nat.le_of_eq hB⟩⟩
 case round =>
  obtain ⟨i,v,zs',hi,rfl,HM,HXR,HG,HR,HO,HZ,HB⟩:=hrel
  clear X2 G2 R2 O2 B2
  by_cases z:i<n
  ·obtain ⟨b,o,e0,hb,_⟩:=HS.out.at (j:=i) (by rw [<-HN.out]; exact z)
   have AT:=qh (fun w' (h':Below w.heap.size w w') j (hj:j<n)=>show w'.cell? ⟨b,o+j * 5,none⟩=some (.string (l.getD j En.Z).key)∧w'.cell? ⟨b,o+j * 5+1,none⟩=some (.int .i64 (l.getD j En.Z).seq)∧w'.cell? ⟨b,o+j * 5+2,none⟩=some (.bool (l.getD j En.Z).val.num)∧w'.cell? ⟨b,o+j * 5+3,none⟩=some (.string (l.getD j En.Z).val.txt)∧w'.cell? ⟨b,o+j * 5+4,none⟩=some (.int .u64 ((l.getD j En.Z).val.bits:Int)) from by
    obtain ⟨b',o',e1,_,d⟩:=HS.out.at (j:=j) (by rw [<-HN.out]; exact hj)
    rw [e0] at e1
    injection e1 with e1
    injection e1 with e1 e2 _
    subst e1 e2
    exact sw5 h' d)
   have HK:=qh (fun w' h'=>AT.out w' h' i z)
   have HP:=qh (fun w' h'=>(AT.out w' h' (i-1) (by omega)).1)
   subst e0
   have RN:=qh (fun (hm:enOk (prevE l i) (S0:Int) (l.getD i En.Z)=false)=>mayE_no (by rw [<-HN.out]; exact z) hm)
   have XF:=qh (HF.out.get (i:=i) (by rw [<-HN.out]; exact z))
   have LS:=qh (loadL_succ l (i:=i) (by rw [<-HN.out]; exact z))
   have LN:=qh (show zs'.length<=1000000 by rw [HZ.out.1,loadL_len,List.length_take]; omega)
   obtain ⟨y,hy⟩:=nmq (l.getD i En.Z)
   have HMY:=qh (show enOk (prevE l i) (S0:Int) y=true->∀ j,j<i+1->enOk (prevE l j) (S0:Int) (l.getD j En.Z)=true from fun hm j hj=>by
    by_cases e:j=i
    ·rw [e,<-hy]; exact hm
    ·exact HM.out j (by omega))
   simp only [<-hy] at HK RN XF LS
   obtain ⟨k,s,yv⟩:=y
   obtain ⟨mm,t,u⟩:=yv
   have VR:=qh (fun w'=>vrRight ⟨mm,t,u⟩ w' XF.out.1)
   have KR:=qh (fun w'=>rKey1 k w' (Nat.le_trans XF.out.2.1 (by decide)))
   obtain ⟨K1,hK1⟩:=nmq (keyOk k)
   obtain ⟨K2,hK2⟩:=nmq (Val.ok ⟨mm,t,u⟩)
   simp only [<-hK1] at KR
   simp only [<-hK2] at VR
   have EM:=qh (show ∀ pv,enOk pv (S0:Int) ⟨k,s,⟨mm,t,u⟩⟩=(K1 && (K2 && (decide (1<=s) && (decide (s<=(S0:Int)) && (match pv with | none=>true | some k2=>ltB k2 k))))) from fun pv=>by rw [hK1,hK2]; rfl)
   have i0:(0:Int)<=(i:Int):=by omega
   have i1:(i:Int)<(n:Int):=by omega
   clear hy hK1 hK2 hb hi
   have BD:=qh HB.out.1.drew
   have HK:Hid (∀ w',Below w.heap.size w w'->w'.cell? ⟨b,o+i * 5,none⟩=some (.string k)∧w'.cell? ⟨b,o+i * 5+1,none⟩=some (.int .i64 s)∧w'.cell? ⟨b,o+i * 5+2,none⟩=some (.bool mm)∧w'.cell? ⟨b,o+i * 5+3,none⟩=some (.string t)∧w'.cell? ⟨b,o+i * 5+4,none⟩=some (.int .u64 (u:Int))):=HK
   have VR:Hid (∀ w',Calls Tryz.prog 57 #[.agg #[.bool mm,.string t,.int .u64 (u:Int)]] w' fun e w''=>e=.returned (.bool K2)∧Below w'.heap.size w' w''):=VR
   have c0':=HK.out _ BD.out
   obtain ⟨c0,c1,c2',c3,c4⟩:=c0'

   go_wp2_with fail
   clear c0 c1 c2' c3 c4
   have E9:=qh (show prevE l i=prevE l i from rfl)
   refine wp_region_held_drew (S:=(Below w.heap.size w)) (by kernel_rfl) (BD.out) (fun gH=>?_)
   refine rgT 0 (v:=?v1) ?y1 gH ?_
   case y1=>(intro v hSw; go_simp<;>rfl)
   refine rgT 1 (v:=?v2) ?y2 gH ?_
   case y2=>(intro v hSw; go_simp<;>rfl)
   refine rgT 2 (v:=?v3) ?y3 gH ?_
   case y3=>(intro v hSw; go_simp<;>rfl)
   try simp only [putS]
   refine rgT 3 (v:=?v4) ?y4 gH ?_
   case y4=>(intro v hSw; go_simp<;>rfl)
   refine rgT 4 (v:=?v5) ?y5 gH ?_
   case y5=>(intro v hSw; obtain ⟨c0,c1,c2,c3,c4⟩:=HK.out _ hSw; go_simp<;>rfl)
   try simp only [putS]
   refine rgO 5 fun K hK=>?_
   go_simp
   refine (KR.out _).mono ?_
   rintro e w1 ⟨rfl,rfl⟩
   refine hK.out _ _ (gH) (fun gH=>?_)
   clear hK K
   try simp only [putS]
   cases hk1:K1 with
   | false =>
    refine rgT 6 (v:=?v6) ?y6 gH ?_
    case y6=>(intro v hSw; go_simp<;>rfl)
    refine rgT 7 (v:=?v7) ?y7 gH ?_
    case y7=>(intro v hSw; go_simp<;>rfl)
    refine rgS 8 gH ?_
    try simp only [putS]
    refine rgS 9 gH ?_
    refine rgS 10 gH ?_
    refine rgS 11 gH ?_
    try simp only [putS]
    refine rgS 12 gH ?_
    try simp only [putS]
    refine rgO 13 fun K hK=>?_
    go_simp
    refine hK.out _ _ (gH) (fun gH=>?_)
    clear hK K
    refine rgS 14 gH ?_
    refine rgT 15 (v:=?v8) ?y8 gH ?_
    case y8=>(intro v hSw; go_simp<;>rfl)
    try simp only [putS]
    refine rgT 16 (v:=?v9) ?y9 gH ?_
    case y9=>(intro v hSw; go_simp<;>rfl)
    refine rgS 17 gH ?_
    refine rgS 18 gH ?_
    try simp only [putS]
    refine rgS 19 gH ?_
    refine rgS 20 gH ?_
    refine rgS 21 gH ?_
    try simp only [putS]
    refine rgS 22 gH ?_
    refine rgT 23 (v:=?v10) ?y10 gH ?_
    case y10=>(intro v hSw; go_simp<;>rfl)
    refine rgT 24 (v:=?v11) ?y11 gH ?_
    case y11=>(intro v hSw; go_simp<;>rfl)
    try simp only [putS]
    refine rgS 25 gH ?_
    refine rgS 26 gH ?_
    refine rgS 27 gH ?_
    try simp only [putS]
    refine rgS 28 gH ?_
    refine rgS 29 gH ?_
    refine rgS 30 gH ?_
    try simp only [putS]
    refine rgS 31 gH ?_
    refine rgT 32 (v:=?v12) ?y12 gH ?_
    case y12=>(intro v hSw; go_simp<;>rfl)
    refine rgT 33 (v:=?v13) ?y13 gH ?_
    case y13=>(intro v hSw; go_simp<;>rfl)
    try simp only [putS]
    refine rgS 34 gH ?_
    refine rgS 35 gH ?_
    refine rgS 36 gH ?_
    try simp only [putS]
    refine rgS 37 gH ?_
    refine rgS 38 gH ?_
    refine rgS 39 gH ?_
    try simp only [putS]
    refine rgS 40 gH ?_
    refine rgS 41 gH ?_
    refine rgS 42 gH ?_
    try simp only [putS]
    refine rgS 43 gH ?_
    refine rgS 44 gH ?_
    refine rgS 45 gH ?_
    try simp only [putS]
    refine rgS 46 gH ?_
    refine rgS 47 gH ?_
    refine rgS 48 gH ?_
    try simp only [putS]
    refine rgS 49 gH ?_
    refine rgT 50 (v:=?v14) ?y14 gH ?_
    case y14=>(intro v hSw; go_simp<;>rfl)
    try simp only [putS]
    refine rgD ?_
    have BE:=qh (show Below w.heap.size w _ from gH)
    have EE:=qh (EL.out (RN.out (by rw [EM.out,E9.out,hk1]; simp)))
    go_wp2_with fail
    go_ret2
    exact ⟨BE.out,.inl ⟨by rw [EE.out]; decide,by rw [EE.out]; rfl⟩⟩
   | true =>
    refine rgT 6 (v:=?v15) ?y15 gH ?_
    case y15=>(intro v hSw; go_simp<;>rfl)
    refine rgT 7 (v:=?v16) ?y16 gH ?_
    case y16=>(intro v hSw; go_simp<;>rfl)
    refine rgT 8 (v:=?v17) ?y17 gH ?_
    case y17=>(intro v hSw; go_simp<;>rfl)
    try simp only [putS]
    refine rgT 9 (v:=?v18) ?y18 gH ?_
    case y18=>(intro v hSw; go_simp<;>rfl)
    refine rgT 10 (v:=?v19) ?y19 gH ?_
    case y19=>(intro v hSw; go_simp<;>rfl)
    refine rgT 11 (v:=?v20) ?y20 gH ?_
    case y20=>(intro v hSw; go_simp<;>rfl)
    try simp only [putS]
    refine rgT 12 (v:=?v21) ?y21 gH ?_
    case y21=>(intro v hSw; obtain ⟨c0,c1,c2,c3,c4⟩:=HK.out _ hSw; go_simp<;>rfl)
    try simp only [putS]
    refine rgO 13 fun K hK=>?_
    go_simp
    refine (VR.out _).mono ?_
    rintro e w1 ⟨rfl,hb1⟩
    have hz:Below w.heap.size w w1:=BD.out.trans (hb1.mono BD.out.size)
    have RW:=qh (show Below wr.heap.size wr w1 from (below_drew (Below.refl wr.heap.size wr)).trans hb1)
    clear hb1
    refine hK.out _ _ (hz) (fun gH=>?_)
    clear hK K
    try simp only [putS]
    cases hk2:K2 with
    | false =>
     refine rgT 14 (v:=?v22) ?y22 gH ?_
     case y22=>(intro v hSw; go_simp<;>rfl)
     refine rgT 15 (v:=?v23) ?y23 gH ?_
     case y23=>(intro v hSw; go_simp<;>rfl)
     refine rgT 16 (v:=?v24) ?y24 gH ?_
     case y24=>(intro v hSw; go_simp<;>rfl)
     try simp only [putS]
     refine rgS 17 gH ?_
     refine rgS 18 gH ?_
     refine rgS 19 gH ?_
     try simp only [putS]
     refine rgS 20 gH ?_
     refine rgS 21 gH ?_
     refine rgS 22 gH ?_
     try simp only [putS]
     refine rgT 23 (v:=?v25) ?y25 gH ?_
     case y25=>(intro v hSw; go_simp<;>rfl)
     refine rgT 24 (v:=?v26) ?y26 gH ?_
     case y26=>(intro v hSw; go_simp<;>rfl)
     refine rgS 25 gH ?_
     try simp only [putS]
     refine rgS 26 gH ?_
     refine rgS 27 gH ?_
     refine rgS 28 gH ?_
     try simp only [putS]
     refine rgS 29 gH ?_
     refine rgS 30 gH ?_
     refine rgS 31 gH ?_
     try simp only [putS]
     refine rgT 32 (v:=?v27) ?y27 gH ?_
     case y27=>(intro v hSw; go_simp<;>rfl)
     refine rgT 33 (v:=?v28) ?y28 gH ?_
     case y28=>(intro v hSw; go_simp<;>rfl)
     refine rgS 34 gH ?_
     try simp only [putS]
     refine rgS 35 gH ?_
     refine rgS 36 gH ?_
     refine rgS 37 gH ?_
     try simp only [putS]
     refine rgS 38 gH ?_
     refine rgS 39 gH ?_
     refine rgS 40 gH ?_
     try simp only [putS]
     refine rgS 41 gH ?_
     refine rgS 42 gH ?_
     refine rgS 43 gH ?_
     try simp only [putS]
     refine rgS 44 gH ?_
     refine rgS 45 gH ?_
     refine rgS 46 gH ?_
     try simp only [putS]
     refine rgS 47 gH ?_
     refine rgS 48 gH ?_
     refine rgS 49 gH ?_
     try simp only [putS]
     refine rgT 50 (v:=?v29) ?y29 gH ?_
     case y29=>(intro v hSw; go_simp<;>rfl)
     try simp only [putS]
     refine rgD ?_
     have BE:=qh (show Below w.heap.size w _ from gH)
     have EE:=qh (EL.out (RN.out (by rw [EM.out,E9.out,hk1,hk2]; simp)))
     go_wp2_with fail
     go_ret2
     exact ⟨BE.out,.inl ⟨by rw [EE.out]; decide,by rw [EE.out]; rfl⟩⟩
    | true =>
     refine rgT 14 (v:=?v30) ?y30 gH ?_
     case y30=>(intro v hSw; go_simp<;>rfl)
     refine rgT 15 (v:=?v31) ?y31 gH ?_
     case y31=>(intro v hSw; go_simp<;>rfl)
     refine rgT 16 (v:=?v32) ?y32 gH ?_
     case y32=>(intro v hSw; go_simp<;>rfl)
     try simp only [putS]
     refine rgT 17 (v:=?v33) ?y33 gH ?_
     case y33=>(intro v hSw; go_simp<;>rfl)
     refine rgT 18 (v:=?v34) ?y34 gH ?_
     case y34=>(intro v hSw; go_simp<;>rfl)
     refine rgT 19 (v:=?v35) ?y35 gH ?_
     case y35=>(intro v hSw; go_simp<;>rfl)
     try simp only [putS]
     refine rgT 20 (v:=?v36) ?y36 gH ?_
     case y36=>(intro v hSw; go_simp<;>rfl)
     refine rgT 21 (v:=?v37) ?y37 gH ?_
     case y37=>(intro v hSw; obtain ⟨c0,c1,c2,c3,c4⟩:=HK.out _ hSw; go_simp<;>rfl)
     try simp only [putS]
     cases d1:decide ((1:Int)<=s) with
     | false =>
      have e1:s<1:=by have:=of_decide_eq_false d1; omega
      have e1':decide (s<1)=true:=decide_eq_true e1
      refine rgT 22 (v:=?v38) ?y38 gH ?_
      case y38=>(intro v hSw; go_simp<;>rfl)
      refine rgT 23 (v:=?v39) ?y39 gH ?_
      case y39=>(intro v hSw; go_simp<;>rfl)
      refine rgT 24 (v:=?v40) ?y40 gH ?_
      case y40=>(intro v hSw; go_simp<;>rfl)
      try simp only [putS]
      refine rgS 25 gH ?_
      refine rgS 26 gH ?_
      refine rgS 27 gH ?_
      try simp only [putS]
      refine rgS 28 gH ?_
      refine rgS 29 gH ?_
      refine rgS 30 gH ?_
      try simp only [putS]
      refine rgS 31 gH ?_
      refine rgT 32 (v:=?v41) ?y41 gH ?_
      case y41=>(intro v hSw; go_simp<;>rfl)
      refine rgT 33 (v:=?v42) ?y42 gH ?_
      case y42=>(intro v hSw; go_simp<;>rfl)
      try simp only [putS]
      refine rgS 34 gH ?_
      refine rgS 35 gH ?_
      refine rgS 36 gH ?_
      try simp only [putS]
      refine rgS 37 gH ?_
      refine rgS 38 gH ?_
      refine rgS 39 gH ?_
      try simp only [putS]
      refine rgS 40 gH ?_
      refine rgS 41 gH ?_
      refine rgS 42 gH ?_
      try simp only [putS]
      refine rgS 43 gH ?_
      refine rgS 44 gH ?_
      refine rgS 45 gH ?_
      try simp only [putS]
      refine rgS 46 gH ?_
      refine rgS 47 gH ?_
      refine rgS 48 gH ?_
      try simp only [putS]
      refine rgS 49 gH ?_
      refine rgT 50 (v:=?v43) ?y43 gH ?_
      case y43=>(intro v hSw; go_simp<;>rfl)
      try simp only [putS]
      refine rgD ?_
      have BE:=qh (show Below w.heap.size w _ from gH)
      have EE:=qh (EL.out (RN.out (by rw [EM.out,E9.out,hk1,hk2,d1]; simp)))
      go_wp2_with fail
      go_ret2
      exact ⟨BE.out,.inl ⟨by rw [EE.out]; decide,by rw [EE.out]; rfl⟩⟩
     | true =>
      have e1:¬ s<1:=by have:=of_decide_eq_true d1; omega
      have e1':decide (s<1)=false:=decide_eq_false e1
      refine rgT 22 (v:=?v44) ?y44 gH ?_
      case y44=>(intro v hSw; go_simp<;>rfl)
      refine rgT 23 (v:=?v45) ?y45 gH ?_
      case y45=>(intro v hSw; go_simp<;>rfl)
      refine rgT 24 (v:=?v46) ?y46 gH ?_
      case y46=>(intro v hSw; go_simp<;>rfl)
      try simp only [putS]
      refine rgT 25 (v:=?v47) ?y47 gH ?_
      case y47=>(intro v hSw; go_simp<;>rfl)
      refine rgT 26 (v:=?v48) ?y48 gH ?_
      case y48=>(intro v hSw; go_simp<;>rfl)
      refine rgT 27 (v:=?v49) ?y49 gH ?_
      case y49=>(intro v hSw; go_simp<;>rfl)
      try simp only [putS]
      refine rgT 28 (v:=?v50) ?y50 gH ?_
      case y50=>(intro v hSw; go_simp<;>rfl)
      refine rgT 29 (v:=?v51) ?y51 gH ?_
      case y51=>(intro v hSw; obtain ⟨c0,c1,c2,c3,c4⟩:=HK.out _ hSw; go_simp<;>rfl)
      try simp only [putS]
      cases d2:decide (s<=(S0:Int)) with
      | false =>
       have e2:(S0:Int)<s:=by have:=of_decide_eq_false d2; omega
       have e2':decide ((S0:Int)<s)=true:=decide_eq_true e2
       refine rgT 30 (v:=?v52) ?y52 gH ?_
       case y52=>(intro v hSw; go_simp<;>rfl)
       refine rgT 31 (v:=?v53) ?y53 gH ?_
       case y53=>(intro v hSw; go_simp<;>rfl)
       refine rgT 32 (v:=?v54) ?y54 gH ?_
       case y54=>(intro v hSw; go_simp<;>rfl)
       try simp only [putS]
       refine rgT 33 (v:=?v55) ?y55 gH ?_
       case y55=>(intro v hSw; go_simp<;>rfl)
       refine rgS 34 gH ?_
       refine rgS 35 gH ?_
       try simp only [putS]
       refine rgS 36 gH ?_
       refine rgS 37 gH ?_
       refine rgS 38 gH ?_
       try simp only [putS]
       refine rgS 39 gH ?_
       refine rgS 40 gH ?_
       refine rgS 41 gH ?_
       try simp only [putS]
       refine rgS 42 gH ?_
       refine rgS 43 gH ?_
       refine rgS 44 gH ?_
       try simp only [putS]
       refine rgS 45 gH ?_
       refine rgS 46 gH ?_
       refine rgS 47 gH ?_
       try simp only [putS]
       refine rgS 48 gH ?_
       refine rgS 49 gH ?_
       refine rgT 50 (v:=?v56) ?y56 gH ?_
       case y56=>(intro v hSw; go_simp<;>rfl)
       try simp only [putS]
       refine rgD ?_
       have BE:=qh (show Below w.heap.size w _ from gH)
       have EE:=qh (EL.out (RN.out (by rw [EM.out,E9.out,hk1,hk2,d1,d2]; simp)))
       go_wp2_with fail
       go_ret2
       exact ⟨BE.out,.inl ⟨by rw [EE.out]; decide,by rw [EE.out]; rfl⟩⟩
      | true =>
       have e2:¬ (S0:Int)<s:=by have:=of_decide_eq_true d2; omega
       have e2':decide ((S0:Int)<s)=false:=decide_eq_false e2
       refine rgT 30 (v:=?v57) ?y57 gH ?_
       case y57=>(intro v hSw; go_simp<;>rfl)
       refine rgT 31 (v:=?v58) ?y58 gH ?_
       case y58=>(intro v hSw; go_simp<;>rfl)
       refine rgT 32 (v:=?v59) ?y59 gH ?_
       case y59=>(intro v hSw; go_simp<;>rfl)
       try simp only [putS]
       refine rgT 33 (v:=?v60) ?y60 gH ?_
       case y60=>(intro v hSw; go_simp<;>rfl)
       try simp only [putS]
       by_cases zi:i=0
       ·have E9:=qh (show prevE l i=none from by rw [zi]; rfl)
        have i9:¬ (0:Int)<(i:Int):=by omega
        have i9':¬ 0<i:=by omega
        have i9d:decide ((0:Int)<(i:Int))=false:=decide_eq_false i9
        have i9e:decide (0<i)=false:=decide_eq_false i9'
        refine rgT 34 (v:=?v61) ?y61 gH ?_
        case y61=>(intro v hSw; go_simp<;>rfl)
        refine rgT 35 (v:=?v62) ?y62 gH ?_
        case y62=>(intro v hSw; go_simp<;>rfl)
        refine rgT 36 (v:=?v63) ?y63 gH ?_
        case y63=>(intro v hSw; go_simp<;>rfl)
        try simp only [putS]
        refine rgS 37 gH ?_
        refine rgS 38 gH ?_
        refine rgS 39 gH ?_
        try simp only [putS]
        refine rgS 40 gH ?_
        refine rgS 41 gH ?_
        refine rgS 42 gH ?_
        try simp only [putS]
        refine rgS 43 gH ?_
        refine rgS 44 gH ?_
        refine rgS 45 gH ?_
        try simp only [putS]
        refine rgS 46 gH ?_
        refine rgS 47 gH ?_
        refine rgS 48 gH ?_
        try simp only [putS]
        refine rgT 49 (v:=?v64) ?y64 gH ?_
        case y64=>(intro v hSw; go_simp<;>rfl)
        refine rgT 50 (v:=?v65) ?y65 gH ?_
        case y65=>(intro v hSw; go_simp<;>rfl)
        try simp only [putS]
        clear i9 i9' i9d i9e zi
        refine rgD ?_
        have BE:=qh (show Below w.heap.size w w1 from gH)
        have OK:=qh (HMY.out (by rw [EM.out,E9.out,hk1,hk2,d1,d2]; rfl))
        have P5:=qh (load_pre (k:=k) (y:=⟨s,false,⟨mm,t,u⟩⟩) (HO.out.below RW.out) (Nat.le_trans HB.out.2 RW.out.size))
        have X1:=qh (HXR.out.below RW.out)
        have LQ:=qh (fun v' w7 ho hg h4=>load_step (v':=v') (w7:=w7) HX.out.2.1 HX.out.2.2.2.1 HX.out.2.2.2.2.2 HX.out.2.2.2.2.1 (by have:=HX.out.1; omega) (Nat.le_of_lt HX.out.1) (Nat.le_trans HB.out.2 RW.out.size) BE.out X1.out (HG.out.below RW.out) (HR.out.below RW.out) (HO.out.below RW.out) (HZ.out.below RW.out) (k:=k) (y:=⟨s,false,⟨mm,t,u⟩⟩) ho hg h4)
        have xl:x<w1.heap.size:=X1.out.lt
        have c5:=X1.out.cell 5
        simp only [rmc,List.getElem?_cons_succ,List.getElem?_cons_zero] at c5
        obtain ⟨c0,c1,c2',c3,c4⟩:=HK.out _ BE.out
        clear gH
        go_wp2_with fail
        clear c0 c1 c2' c3 c4
        have BF:=qh (below_drew BE.out)
        have BV:=qh (BE.out.alloc BE.out.size (.cells #[.int .i64 s,.bool false,.bool mm,.string t,.int .u64 (u:Int)] 132))
        have BZ:=qh (BV.out.alloc BV.out.size (.cells #[.string k,.slice (some ⟨w1.heap.size,0,none⟩) 1 1] 139))
        refine wp_region_held_drew (S:=(Below w.heap.size w)) (by kernel_rfl) (BF.out) (fun gH=>?_)
        refine rgT 0 (v:=?v66) ?y66 gH ?_
        case y66=>(intro v hSw; obtain ⟨c0,c1,c2',c3,c4⟩:=HK.out _ hSw; go_simp<;>rfl)
        refine rgT 1 (v:=?v67) ?y67 gH ?_
        case y67=>(intro v hSw; obtain ⟨c0,c1,c2',c3,c4⟩:=HK.out _ hSw; go_simp<;>rfl)
        refine rgT 2 (v:=?v68) ?y68 gH ?_
        case y68=>(intro v hSw; obtain ⟨c0,c1,c2',c3,c4⟩:=HK.out _ hSw; go_simp<;>rfl)
        try simp only [putS]
        refine rgT 3 (v:=?v69) ?y69 gH ?_
        case y69=>(intro v hSw; obtain ⟨c0,c1,c2',c3,c4⟩:=HK.out _ hSw; go_simp<;>rfl)
        refine rgT 5 (v:=?v70) ?y70 gH ?_
        case y70=>(intro v hSw; obtain ⟨c0,c1,c2',c3,c4⟩:=HK.out _ hSw; go_simp<;>rfl)
        refine rgT 6 (v:=?v71) ?y71 gH ?_
        case y71=>(intro v hSw; obtain ⟨c0,c1,c2',c3,c4⟩:=HK.out _ hSw; go_simp<;>rfl)
        try simp only [putS]
        refine rgT 7 (v:=?v72) ?y72 gH ?_
        case y72=>(intro v hSw; obtain ⟨c0,c1,c2',c3,c4⟩:=HK.out _ hSw; go_simp<;>rfl)
        refine rgT 8 (v:=?v73) ?y73 gH ?_
        case y73=>(intro v hSw; obtain ⟨c0,c1,c2',c3,c4⟩:=HK.out _ hSw; go_simp<;>rfl)
        refine rgT 9 (v:=?v74) ?y74 gH ?_
        case y74=>(intro v hSw; obtain ⟨c0,c1,c2',c3,c4⟩:=HK.out _ hSw; go_simp<;>rfl)
        try simp only [putS]
        refine rgT 10 (v:=?v75) ?y75 gH ?_
        case y75=>(intro v hSw; obtain ⟨c0,c1,c2',c3,c4⟩:=HK.out _ hSw; go_simp<;>rfl)
        refine rgT 11 (v:=?v76) ?y76 gH ?_
        case y76=>(intro v hSw; obtain ⟨c0,c1,c2',c3,c4⟩:=HK.out _ hSw; go_simp<;>rfl)
        refine rgT 12 (v:=?v77) ?y77 gH ?_
        case y77=>(intro v hSw; obtain ⟨c0,c1,c2',c3,c4⟩:=HK.out _ hSw; go_simp<;>rfl)
        try simp only [putS]
        refine rgT 13 (v:=?v78) ?y78 gH ?_
        case y78=>(intro v hSw; obtain ⟨c0,c1,c2',c3,c4⟩:=HK.out _ hSw; go_simp<;>rfl)
        refine rgT 14 (v:=?v79) ?y79 gH ?_
        case y79=>(intro v hSw; obtain ⟨c0,c1,c2',c3,c4⟩:=HK.out _ hSw; go_simp<;>rfl)
        refine rgT 15 (v:=?v80) ?y80 gH ?_
        case y80=>(intro v hSw; obtain ⟨c0,c1,c2',c3,c4⟩:=HK.out _ hSw; go_simp<;>rfl)
        try simp only [putS]
        refine rgT 16 (v:=?v81) ?y81 gH ?_
        case y81=>(intro v hSw; obtain ⟨c0,c1,c2',c3,c4⟩:=HK.out _ hSw; go_simp<;>rfl)
        refine rgT 17 (v:=?v82) ?y82 gH ?_
        case y82=>(intro v hSw; obtain ⟨c0,c1,c2',c3,c4⟩:=HK.out _ hSw; go_simp<;>rfl)
        refine rgT 18 (v:=?v83) ?y83 gH ?_
        case y83=>(intro v hSw; obtain ⟨c0,c1,c2',c3,c4⟩:=HK.out _ hSw; go_simp<;>rfl)
        try simp only [putS]
        refine rgT 19 (v:=?v84) ?y84 gH ?_
        case y84=>(intro v hSw; obtain ⟨c0,c1,c2',c3,c4⟩:=HK.out _ hSw; go_simp<;>rfl)
        refine rgT 20 (v:=?v85) ?y85 gH ?_
        case y85=>(intro v hSw; obtain ⟨c0,c1,c2',c3,c4⟩:=HK.out _ hSw; go_simp<;>rfl)
        try simp only [putS]
        refine rgnTwo 4 21 rfl rfl (by kernel_rfl) (fun K hK=>?_) (fun K hK=>?_)
        ·go_simp
         refine hK.out _ _ (BF.out) (fun gH=>?_)
         clear hK K
         try simp only [putS]
         refine rgO 21 fun K hK=>?_
         go_simp
         refine hK.out _ _ (below_drew BV.out) (fun gH=>?_)
         clear hK K
         refine rgT 22 (v:=?v86) ?y86 gH ?_
         case y86=>(intro v hSw; go_simp<;>rfl)
         try simp only [putS]
         refine rgO 23 fun K hK=>?_
         go_simp
         refine hK.out _ _ (below_drew BZ.out) (fun gH=>?_)
         clear hK K
         try simp only [putS]
         clear c5
         refine rgO 24 fun K hK=>?_
         refine step_putZ rfl (.tmp 87) (.tmp 106) rfl v zs' rfl P5.out.1 P5.out.2.1 (w1.heap.size+1) (k,.slice (some ⟨w1.heap.size,0,none⟩) 1 1) rfl rfl P5.out.2.2 LN.out ?_
         intro v' w7 ho hg h4
         have LP:=qh (LQ.out v' w7 ho ⟨hg.os,hg.tape,hg.output,hg.size,hg.block⟩ h4)
         have HO7:=qh ho
         clear hg h4
         obtain ⟨g7,cap7,M7,hv7⟩:∃ g7 cap7 M7,v'=.slice (some ⟨g7,0,none⟩) M7 cap7:=by
          rcases ho.2 with ⟨_,hn⟩ | ⟨g,cap,cur,e,_⟩
          ·simp at hn
          ·exact ⟨g,cap,_,e⟩
         clear ho
         subst hv7
         refine hK.out _ _ LP.out.2.1 (fun gH=>?_)
         clear hK K
         refine rgT 25 (v:=?v87) ?y87 gH ?_
         case y87=>(intro v hSw; go_simp<;>rfl)
         refine rgT 26 (v:=?v88) ?y88 gH ?_
         case y88=>(intro v hSw; go_simp<;>rfl)
         try simp only [putS]
         have f7:=LP.out.1.frozen 5
         have e7:=LP.out.1.cell 5
         simp only [rmc,List.getElem?_cons_succ,List.getElem?_cons_zero] at f7 e7
         refine rgO 27 fun K hK=>?_
         go_simp
         refine hK.out _ _ (LP.out.2.2.2.2.2.2.2.1) (fun gH=>?_)
         clear hK K
         try simp only [putS]
         refine rgD ?_
         clear f7 e7
         go_wp2_with fail
         go_roundw
         case rel=>exact ⟨i+1,_,zs'++[(k,.slice (some ⟨w1.heap.size,0,none⟩) 1 1)],by omega,by go_num,OK,qh LP.out.2.2.1,qh LP.out.2.2.2.1,qh LP.out.2.2.2.2.1,qh LP.out.2.2.2.2.2.1,by rw [LS.out]; exact qh LP.out.2.2.2.2.2.2.1,qh LP.out.2.2.2.2.2.2.2⟩
         case measure=>simp [intOf]; omega
        ·go_simp
         refine hK.out _ _ ((below_drew BV.out)) (fun gH=>?_)
         clear hK K
         refine rgT 22 (v:=?v89) ?y89 gH ?_
         case y89=>(intro v hSw; go_simp<;>rfl)
         try simp only [putS]
         refine rgnTwo 4 23 rfl rfl (by kernel_rfl) (fun K hK=>?_) (fun K hK=>?_)
         ·go_simp
          refine hK.out _ _ ((below_drew BV.out)) (fun gH=>?_)
          clear hK K
          try simp only [putS]
          refine rgO 23 fun K hK=>?_
          go_simp
          refine hK.out _ _ (below_drew BZ.out) (fun gH=>?_)
          clear hK K
          try simp only [putS]
          clear c5
          refine rgO 24 fun K hK=>?_
          refine step_putZ rfl (.tmp 87) (.tmp 106) rfl v zs' rfl P5.out.1 P5.out.2.1 (w1.heap.size+1) (k,.slice (some ⟨w1.heap.size,0,none⟩) 1 1) rfl rfl P5.out.2.2 LN.out ?_
          intro v' w7 ho hg h4
          have LP:=qh (LQ.out v' w7 ho ⟨hg.os,hg.tape,hg.output,hg.size,hg.block⟩ h4)
          have HO7:=qh ho
          clear hg h4
          obtain ⟨g7,cap7,M7,hv7⟩:∃ g7 cap7 M7,v'=.slice (some ⟨g7,0,none⟩) M7 cap7:=by
           rcases ho.2 with ⟨_,hn⟩ | ⟨g,cap,cur,e,_⟩
           ·simp at hn
           ·exact ⟨g,cap,_,e⟩
          clear ho
          subst hv7
          refine hK.out _ _ LP.out.2.1 (fun gH=>?_)
          clear hK K
          refine rgT 25 (v:=?v90) ?y90 gH ?_
          case y90=>(intro v hSw; go_simp<;>rfl)
          refine rgT 26 (v:=?v91) ?y91 gH ?_
          case y91=>(intro v hSw; go_simp<;>rfl)
          try simp only [putS]
          have f7:=LP.out.1.frozen 5
          have e7:=LP.out.1.cell 5
          simp only [rmc,List.getElem?_cons_succ,List.getElem?_cons_zero] at f7 e7
          refine rgO 27 fun K hK=>?_
          go_simp
          refine hK.out _ _ (LP.out.2.2.2.2.2.2.2.1) (fun gH=>?_)
          clear hK K
          try simp only [putS]
          refine rgD ?_
          clear f7 e7
          go_wp2_with fail
          go_roundw
          case rel=>exact ⟨i+1,_,zs'++[(k,.slice (some ⟨w1.heap.size,0,none⟩) 1 1)],by omega,by go_num,OK,qh LP.out.2.2.1,qh LP.out.2.2.2.1,qh LP.out.2.2.2.2.1,qh LP.out.2.2.2.2.2.1,by rw [LS.out]; exact qh LP.out.2.2.2.2.2.2.1,qh LP.out.2.2.2.2.2.2.2⟩
          case measure=>simp [intOf]; omega
         ·go_simp
          refine hK.out _ _ ((below_drew BZ.out)) (fun gH=>?_)
          clear hK K
          try simp only [putS]
          refine rgO 4 fun K hK=>?_
          go_simp
          refine hK.out _ _ (below_drew BZ.out) (fun gH=>?_)
          clear hK K
          try simp only [putS]
          clear c5
          refine rgO 24 fun K hK=>?_
          refine step_putZ rfl (.tmp 87) (.tmp 106) rfl v zs' rfl P5.out.1 P5.out.2.1 (w1.heap.size+1) (k,.slice (some ⟨w1.heap.size,0,none⟩) 1 1) rfl rfl P5.out.2.2 LN.out ?_
          intro v' w7 ho hg h4
          have LP:=qh (LQ.out v' w7 ho ⟨hg.os,hg.tape,hg.output,hg.size,hg.block⟩ h4)
          have HO7:=qh ho
          clear hg h4
          obtain ⟨g7,cap7,M7,hv7⟩:∃ g7 cap7 M7,v'=.slice (some ⟨g7,0,none⟩) M7 cap7:=by
           rcases ho.2 with ⟨_,hn⟩ | ⟨g,cap,cur,e,_⟩
           ·simp at hn
           ·exact ⟨g,cap,_,e⟩
          clear ho
          subst hv7
          refine hK.out _ _ LP.out.2.1 (fun gH=>?_)
          clear hK K
          refine rgT 25 (v:=?v92) ?y92 gH ?_
          case y92=>(intro v hSw; go_simp<;>rfl)
          refine rgT 26 (v:=?v93) ?y93 gH ?_
          case y93=>(intro v hSw; go_simp<;>rfl)
          try simp only [putS]
          have f7:=LP.out.1.frozen 5
          have e7:=LP.out.1.cell 5
          simp only [rmc,List.getElem?_cons_succ,List.getElem?_cons_zero] at f7 e7
          refine rgO 27 fun K hK=>?_
          go_simp
          refine hK.out _ _ (LP.out.2.2.2.2.2.2.2.1) (fun gH=>?_)
          clear hK K
          try simp only [putS]
          refine rgD ?_
          clear f7 e7
          go_wp2_with fail
          go_roundw
          case rel=>exact ⟨i+1,_,zs'++[(k,.slice (some ⟨w1.heap.size,0,none⟩) 1 1)],by omega,by go_num,OK,qh LP.out.2.2.1,qh LP.out.2.2.2.1,qh LP.out.2.2.2.2.1,qh LP.out.2.2.2.2.2.1,by rw [LS.out]; exact qh LP.out.2.2.2.2.2.2.1,qh LP.out.2.2.2.2.2.2.2⟩
          case measure=>simp [intOf]; omega
       ·obtain ⟨j,hj⟩:=nmq (i-1)
        have i9:(0:Int)<(i:Int):=by omega
        have i9':0<i:=by omega
        have i9d:decide ((0:Int)<(i:Int))=true:=decide_eq_true i9
        have i9e:decide (0<i)=true:=decide_eq_true i9'
        have i4:wrap64 ((i:Int)-1)=(j:Int):=by
         rw [show (i:Int)-1=(j:Int) by omega]
         have:(j:Int)<=10000:=by omega
         first | exact wrap64_small (by omega) (by omega) | (unfold wrap64; omega) | (simp only [wrap64,IntKind.wrap_i64]; omega)
        have i4':IntKind.i64.wrap ((i:Int)-1)=(j:Int):=by rw [IntKind.wrap_i64]; omega
        have PS:=qh (show prevE l i=some (l.getD j En.Z).key from by rw [show i=j+1 by omega]; exact prevE_succ l j)
        have HP:=qh (show ∀ w',Below w.heap.size w w'->w'.cell? ⟨b,o+j * 5,none⟩=some (.string (l.getD j En.Z).key) from by rw [hj]; exact HP.out)
        obtain ⟨pk,hpk⟩:=nmq ((l.getD j En.Z).key)
        rw [<-hpk] at PS
        simp only [<-hpk] at HP
        clear hpk
        have E9:=qh PS.out
        have i2:(0:Int)<=(j:Int):=by omega
        have i3:(j:Int)<(n:Int):=by omega
        clear hj zi PS
        refine rgT 34 (v:=?v94) ?y94 gH ?_
        case y94=>(intro v hSw; go_simp<;>rfl)
        refine rgT 35 (v:=?v95) ?y95 gH ?_
        case y95=>(intro v hSw; go_simp<;>rfl)
        refine rgT 36 (v:=?v96) ?y96 gH ?_
        case y96=>(intro v hSw; go_simp<;>rfl)
        try simp only [putS]
        refine rgT 37 (v:=?v97) ?y97 gH ?_
        case y97=>(intro v hSw; go_simp<;>rfl)
        refine rgT 38 (v:=?v98) ?y98 gH ?_
        case y98=>(intro v hSw; go_simp<;>rfl)
        refine rgT 39 (v:=?v99) ?y99 gH ?_
        case y99=>(intro v hSw; go_simp<;>rfl)
        try simp only [putS]
        refine rgT 40 (v:=?v100) ?y100 gH ?_
        case y100=>(intro v hSw; go_simp<;>rfl)
        refine rgT 41 (v:=?v101) ?y101 gH ?_
        case y101=>(intro v hSw; go_simp<;>rfl)
        refine rgT 42 (v:=?v102) ?y102 gH ?_
        case y102=>(intro v hSw; have pc:=HP.out _ hSw; go_simp<;>rfl)
        try simp only [putS]
        refine rgT 43 (v:=?v103) ?y103 gH ?_
        case y103=>(intro v hSw; go_simp<;>rfl)
        refine rgT 44 (v:=?v104) ?y104 gH ?_
        case y104=>(intro v hSw; go_simp<;>rfl)
        refine rgT 45 (v:=?v105) ?y105 gH ?_
        case y105=>(intro v hSw; go_simp<;>rfl)
        try simp only [putS]
        refine rgT 46 (v:=?v106) ?y106 gH ?_
        case y106=>(intro v hSw; go_simp<;>rfl)
        refine rgT 47 (v:=?v107) ?y107 gH ?_
        case y107=>(intro v hSw; obtain ⟨c0,c1,c2,c3,c4⟩:=HK.out _ hSw; go_simp<;>rfl)
        try simp only [putS]
        cases z9:ltB pk k with
        | false =>
         have f1:Op.bytesLess pk.toList k.toList=false:=z9
         refine rgT 48 (v:=?v108) ?y108 gH ?_
         case y108=>(intro v hSw; go_simp<;>rfl)
         refine rgT 49 (v:=?v109) ?y109 gH ?_
         case y109=>(intro v hSw; go_simp<;>rfl)
         refine rgT 50 (v:=?v110) ?y110 gH ?_
         case y110=>(intro v hSw; go_simp<;>rfl)
         try simp only [putS]
         refine rgD ?_
         have BE:=qh (show Below w.heap.size w _ from gH)
         have EE:=qh (EL.out (RN.out (by rw [EM.out,E9.out,hk1,hk2,d1,d2]; exact z9)))
         go_wp2_with fail
         go_ret2
         exact ⟨BE.out,.inl ⟨by rw [EE.out]; decide,by rw [EE.out]; rfl⟩⟩
        | true =>
         have f1:Op.bytesLess pk.toList k.toList=true:=z9
         refine rgT 48 (v:=?v111) ?y111 gH ?_
         case y111=>(intro v hSw; go_simp<;>rfl)
         refine rgT 49 (v:=?v112) ?y112 gH ?_
         case y112=>(intro v hSw; go_simp<;>rfl)
         refine rgT 50 (v:=?v113) ?y113 gH ?_
         case y113=>(intro v hSw; go_simp<;>rfl)
         try simp only [putS]
         clear i9 i9' i9d i9e i4 i4' i2 i3 f1
         refine rgD ?_
         have BE:=qh (show Below w.heap.size w w1 from gH)
         have OK:=qh (HMY.out (by rw [EM.out,E9.out,hk1,hk2,d1,d2]; exact z9))
         have P5:=qh (load_pre (k:=k) (y:=⟨s,false,⟨mm,t,u⟩⟩) (HO.out.below RW.out) (Nat.le_trans HB.out.2 RW.out.size))
         have X1:=qh (HXR.out.below RW.out)
         have LQ:=qh (fun v' w7 ho hg h4=>load_step (v':=v') (w7:=w7) HX.out.2.1 HX.out.2.2.2.1 HX.out.2.2.2.2.2 HX.out.2.2.2.2.1 (by have:=HX.out.1; omega) (Nat.le_of_lt HX.out.1) (Nat.le_trans HB.out.2 RW.out.size) BE.out X1.out (HG.out.below RW.out) (HR.out.below RW.out) (HO.out.below RW.out) (HZ.out.below RW.out) (k:=k) (y:=⟨s,false,⟨mm,t,u⟩⟩) ho hg h4)
         have xl:x<w1.heap.size:=X1.out.lt
         have c5:=X1.out.cell 5
         simp only [rmc,List.getElem?_cons_succ,List.getElem?_cons_zero] at c5
         obtain ⟨c0,c1,c2',c3,c4⟩:=HK.out _ BE.out
         clear gH
         go_wp2_with fail
         clear c0 c1 c2' c3 c4
         have BF:=qh (below_drew BE.out)
         have BV:=qh (BE.out.alloc BE.out.size (.cells #[.int .i64 s,.bool false,.bool mm,.string t,.int .u64 (u:Int)] 132))
         have BZ:=qh (BV.out.alloc BV.out.size (.cells #[.string k,.slice (some ⟨w1.heap.size,0,none⟩) 1 1] 139))
         refine wp_region_held_drew (S:=(Below w.heap.size w)) (by kernel_rfl) (BF.out) (fun gH=>?_)
         refine rgT 0 (v:=?v114) ?y114 gH ?_
         case y114=>(intro v hSw; obtain ⟨c0,c1,c2',c3,c4⟩:=HK.out _ hSw; go_simp<;>rfl)
         refine rgT 1 (v:=?v115) ?y115 gH ?_
         case y115=>(intro v hSw; obtain ⟨c0,c1,c2',c3,c4⟩:=HK.out _ hSw; go_simp<;>rfl)
         refine rgT 2 (v:=?v116) ?y116 gH ?_
         case y116=>(intro v hSw; obtain ⟨c0,c1,c2',c3,c4⟩:=HK.out _ hSw; go_simp<;>rfl)
         try simp only [putS]
         refine rgT 3 (v:=?v117) ?y117 gH ?_
         case y117=>(intro v hSw; obtain ⟨c0,c1,c2',c3,c4⟩:=HK.out _ hSw; go_simp<;>rfl)
         refine rgT 5 (v:=?v118) ?y118 gH ?_
         case y118=>(intro v hSw; obtain ⟨c0,c1,c2',c3,c4⟩:=HK.out _ hSw; go_simp<;>rfl)
         refine rgT 6 (v:=?v119) ?y119 gH ?_
         case y119=>(intro v hSw; obtain ⟨c0,c1,c2',c3,c4⟩:=HK.out _ hSw; go_simp<;>rfl)
         try simp only [putS]
         refine rgT 7 (v:=?v120) ?y120 gH ?_
         case y120=>(intro v hSw; obtain ⟨c0,c1,c2',c3,c4⟩:=HK.out _ hSw; go_simp<;>rfl)
         refine rgT 8 (v:=?v121) ?y121 gH ?_
         case y121=>(intro v hSw; obtain ⟨c0,c1,c2',c3,c4⟩:=HK.out _ hSw; go_simp<;>rfl)
         refine rgT 9 (v:=?v122) ?y122 gH ?_
         case y122=>(intro v hSw; obtain ⟨c0,c1,c2',c3,c4⟩:=HK.out _ hSw; go_simp<;>rfl)
         try simp only [putS]
         refine rgT 10 (v:=?v123) ?y123 gH ?_
         case y123=>(intro v hSw; obtain ⟨c0,c1,c2',c3,c4⟩:=HK.out _ hSw; go_simp<;>rfl)
         refine rgT 11 (v:=?v124) ?y124 gH ?_
         case y124=>(intro v hSw; obtain ⟨c0,c1,c2',c3,c4⟩:=HK.out _ hSw; go_simp<;>rfl)
         refine rgT 12 (v:=?v125) ?y125 gH ?_
         case y125=>(intro v hSw; obtain ⟨c0,c1,c2',c3,c4⟩:=HK.out _ hSw; go_simp<;>rfl)
         try simp only [putS]
         refine rgT 13 (v:=?v126) ?y126 gH ?_
         case y126=>(intro v hSw; obtain ⟨c0,c1,c2',c3,c4⟩:=HK.out _ hSw; go_simp<;>rfl)
         refine rgT 14 (v:=?v127) ?y127 gH ?_
         case y127=>(intro v hSw; obtain ⟨c0,c1,c2',c3,c4⟩:=HK.out _ hSw; go_simp<;>rfl)
         refine rgT 15 (v:=?v128) ?y128 gH ?_
         case y128=>(intro v hSw; obtain ⟨c0,c1,c2',c3,c4⟩:=HK.out _ hSw; go_simp<;>rfl)
         try simp only [putS]
         refine rgT 16 (v:=?v129) ?y129 gH ?_
         case y129=>(intro v hSw; obtain ⟨c0,c1,c2',c3,c4⟩:=HK.out _ hSw; go_simp<;>rfl)
         refine rgT 17 (v:=?v130) ?y130 gH ?_
         case y130=>(intro v hSw; obtain ⟨c0,c1,c2',c3,c4⟩:=HK.out _ hSw; go_simp<;>rfl)
         refine rgT 18 (v:=?v131) ?y131 gH ?_
         case y131=>(intro v hSw; obtain ⟨c0,c1,c2',c3,c4⟩:=HK.out _ hSw; go_simp<;>rfl)
         try simp only [putS]
         refine rgT 19 (v:=?v132) ?y132 gH ?_
         case y132=>(intro v hSw; obtain ⟨c0,c1,c2',c3,c4⟩:=HK.out _ hSw; go_simp<;>rfl)
         refine rgT 20 (v:=?v133) ?y133 gH ?_
         case y133=>(intro v hSw; obtain ⟨c0,c1,c2',c3,c4⟩:=HK.out _ hSw; go_simp<;>rfl)
         try simp only [putS]
         refine rgnTwo 4 21 rfl rfl (by kernel_rfl) (fun K hK=>?_) (fun K hK=>?_)
         ·go_simp
          refine hK.out _ _ (BF.out) (fun gH=>?_)
          clear hK K
          try simp only [putS]
          refine rgO 21 fun K hK=>?_
          go_simp
          refine hK.out _ _ (below_drew BV.out) (fun gH=>?_)
          clear hK K
          refine rgT 22 (v:=?v134) ?y134 gH ?_
          case y134=>(intro v hSw; go_simp<;>rfl)
          try simp only [putS]
          refine rgO 23 fun K hK=>?_
          go_simp
          refine hK.out _ _ (below_drew BZ.out) (fun gH=>?_)
          clear hK K
          try simp only [putS]
          clear c5
          refine rgO 24 fun K hK=>?_
          refine step_putZ rfl (.tmp 87) (.tmp 106) rfl v zs' rfl P5.out.1 P5.out.2.1 (w1.heap.size+1) (k,.slice (some ⟨w1.heap.size,0,none⟩) 1 1) rfl rfl P5.out.2.2 LN.out ?_
          intro v' w7 ho hg h4
          have LP:=qh (LQ.out v' w7 ho ⟨hg.os,hg.tape,hg.output,hg.size,hg.block⟩ h4)
          have HO7:=qh ho
          clear hg h4
          obtain ⟨g7,cap7,M7,hv7⟩:∃ g7 cap7 M7,v'=.slice (some ⟨g7,0,none⟩) M7 cap7:=by
           rcases ho.2 with ⟨_,hn⟩ | ⟨g,cap,cur,e,_⟩
           ·simp at hn
           ·exact ⟨g,cap,_,e⟩
          clear ho
          subst hv7
          refine hK.out _ _ LP.out.2.1 (fun gH=>?_)
          clear hK K
          refine rgT 25 (v:=?v135) ?y135 gH ?_
          case y135=>(intro v hSw; go_simp<;>rfl)
          refine rgT 26 (v:=?v136) ?y136 gH ?_
          case y136=>(intro v hSw; go_simp<;>rfl)
          try simp only [putS]
          have f7:=LP.out.1.frozen 5
          have e7:=LP.out.1.cell 5
          simp only [rmc,List.getElem?_cons_succ,List.getElem?_cons_zero] at f7 e7
          refine rgO 27 fun K hK=>?_
          go_simp
          refine hK.out _ _ (LP.out.2.2.2.2.2.2.2.1) (fun gH=>?_)
          clear hK K
          try simp only [putS]
          refine rgD ?_
          clear f7 e7
          go_wp2_with fail
          go_roundw
          case rel=>exact ⟨i+1,_,zs'++[(k,.slice (some ⟨w1.heap.size,0,none⟩) 1 1)],by omega,by go_num,OK,qh LP.out.2.2.1,qh LP.out.2.2.2.1,qh LP.out.2.2.2.2.1,qh LP.out.2.2.2.2.2.1,by rw [LS.out]; exact qh LP.out.2.2.2.2.2.2.1,qh LP.out.2.2.2.2.2.2.2⟩
          case measure=>simp [intOf]; omega
         ·go_simp
          refine hK.out _ _ ((below_drew BV.out)) (fun gH=>?_)
          clear hK K
          refine rgT 22 (v:=?v137) ?y137 gH ?_
          case y137=>(intro v hSw; go_simp<;>rfl)
          try simp only [putS]
          refine rgnTwo 4 23 rfl rfl (by kernel_rfl) (fun K hK=>?_) (fun K hK=>?_)
          ·go_simp
           refine hK.out _ _ ((below_drew BV.out)) (fun gH=>?_)
           clear hK K
           try simp only [putS]
           refine rgO 23 fun K hK=>?_
           go_simp
           refine hK.out _ _ (below_drew BZ.out) (fun gH=>?_)
           clear hK K
           try simp only [putS]
           clear c5
           refine rgO 24 fun K hK=>?_
           refine step_putZ rfl (.tmp 87) (.tmp 106) rfl v zs' rfl P5.out.1 P5.out.2.1 (w1.heap.size+1) (k,.slice (some ⟨w1.heap.size,0,none⟩) 1 1) rfl rfl P5.out.2.2 LN.out ?_
           intro v' w7 ho hg h4
           have LP:=qh (LQ.out v' w7 ho ⟨hg.os,hg.tape,hg.output,hg.size,hg.block⟩ h4)
           have HO7:=qh ho
           clear hg h4
           obtain ⟨g7,cap7,M7,hv7⟩:∃ g7 cap7 M7,v'=.slice (some ⟨g7,0,none⟩) M7 cap7:=by
            rcases ho.2 with ⟨_,hn⟩ | ⟨g,cap,cur,e,_⟩
            ·simp at hn
            ·exact ⟨g,cap,_,e⟩
           clear ho
           subst hv7
           refine hK.out _ _ LP.out.2.1 (fun gH=>?_)
           clear hK K
           refine rgT 25 (v:=?v138) ?y138 gH ?_
           case y138=>(intro v hSw; go_simp<;>rfl)
           refine rgT 26 (v:=?v139) ?y139 gH ?_
           case y139=>(intro v hSw; go_simp<;>rfl)
           try simp only [putS]
           have f7:=LP.out.1.frozen 5
           have e7:=LP.out.1.cell 5
           simp only [rmc,List.getElem?_cons_succ,List.getElem?_cons_zero] at f7 e7
           refine rgO 27 fun K hK=>?_
           go_simp
           refine hK.out _ _ (LP.out.2.2.2.2.2.2.2.1) (fun gH=>?_)
           clear hK K
           try simp only [putS]
           refine rgD ?_
           clear f7 e7
           go_wp2_with fail
           go_roundw
           case rel=>exact ⟨i+1,_,zs'++[(k,.slice (some ⟨w1.heap.size,0,none⟩) 1 1)],by omega,by go_num,OK,qh LP.out.2.2.1,qh LP.out.2.2.2.1,qh LP.out.2.2.2.2.1,qh LP.out.2.2.2.2.2.1,by rw [LS.out]; exact qh LP.out.2.2.2.2.2.2.1,qh LP.out.2.2.2.2.2.2.2⟩
           case measure=>simp [intOf]; omega
          ·go_simp
           refine hK.out _ _ ((below_drew BZ.out)) (fun gH=>?_)
           clear hK K
           try simp only [putS]
           refine rgO 4 fun K hK=>?_
           go_simp
           refine hK.out _ _ (below_drew BZ.out) (fun gH=>?_)
           clear hK K
           try simp only [putS]
           clear c5
           refine rgO 24 fun K hK=>?_
           refine step_putZ rfl (.tmp 87) (.tmp 106) rfl v zs' rfl P5.out.1 P5.out.2.1 (w1.heap.size+1) (k,.slice (some ⟨w1.heap.size,0,none⟩) 1 1) rfl rfl P5.out.2.2 LN.out ?_
           intro v' w7 ho hg h4
           have LP:=qh (LQ.out v' w7 ho ⟨hg.os,hg.tape,hg.output,hg.size,hg.block⟩ h4)
           have HO7:=qh ho
           clear hg h4
           obtain ⟨g7,cap7,M7,hv7⟩:∃ g7 cap7 M7,v'=.slice (some ⟨g7,0,none⟩) M7 cap7:=by
            rcases ho.2 with ⟨_,hn⟩ | ⟨g,cap,cur,e,_⟩
            ·simp at hn
            ·exact ⟨g,cap,_,e⟩
           clear ho
           subst hv7
           refine hK.out _ _ LP.out.2.1 (fun gH=>?_)
           clear hK K
           refine rgT 25 (v:=?v140) ?y140 gH ?_
           case y140=>(intro v hSw; go_simp<;>rfl)
           refine rgT 26 (v:=?v141) ?y141 gH ?_
           case y141=>(intro v hSw; go_simp<;>rfl)
           try simp only [putS]
           have f7:=LP.out.1.frozen 5
           have e7:=LP.out.1.cell 5
           simp only [rmc,List.getElem?_cons_succ,List.getElem?_cons_zero] at f7 e7
           refine rgO 27 fun K hK=>?_
           go_simp
           refine hK.out _ _ (LP.out.2.2.2.2.2.2.2.1) (fun gH=>?_)
           clear hK K
           try simp only [putS]
           refine rgD ?_
           clear f7 e7
           go_wp2_with fail
           go_roundw
           case rel=>exact ⟨i+1,_,zs'++[(k,.slice (some ⟨w1.heap.size,0,none⟩) 1 1)],by omega,by go_num,OK,qh LP.out.2.2.1,qh LP.out.2.2.2.1,qh LP.out.2.2.2.2.1,qh LP.out.2.2.2.2.2.1,by rw [LS.out]; exact qh LP.out.2.2.2.2.2.2.1,qh LP.out.2.2.2.2.2.2.2⟩
           case measure=>simp [intOf]; omega
  ·obtain rfl:i=n:=by omega
   have hz:=HZ.out
   rw [HN.out,List.take_length] at hz
   have MY:=qh (mayE_yes (l:=l) (sq:=(S0:Int)) (fun j hj=>HM.out j (by rw [HN.out]; exact hj)))
   have GL:=loadL_good MY.out HF.out (by rw [<-HN.out]; exact hl)
   obtain ⟨A',c',hv',sl'⟩:=HO.out.sl (hz.mono (G':=fun y=>B<=y) (fun k e=>by rcases e with e | e; exact e.elim; exact e.1)) (fun k e=>e)
   have CL:=qh (fun W (b:Below wr.heap.size wr W)=>rLive1 x _ A' c' (loadL l) W (by
    have:=(HXR.out.below b).cell 5
    rw [hv'] at this
    simpa only [rmc,List.getElem?_cons_succ,List.getElem?_cons_zero] using this) (sl'.bound.keep (fun k e=>b.block k e.2) b.size) GL)
   have FI:=qh (fun W (b:Below wr.heap.size wr W)=>show LoadP w (.slice A m c) (N1:Int) g2 g3 (S0:Int) (loadL l) x q (fun y=>B<=y∧y<wr.heap.size) A' c' W from by
    refine ⟨Nat.le_of_lt HX.out.1,HX.out.2.2.1,fun k e=>by have:=HX.out.2.2.2.2.2; omega,⟨?_,HG.out.below b,sl'.bound.keep (fun k e=>b.block k e.2) b.size,fun k e=>Nat.lt_of_lt_of_le e.2 b.size⟩,⟨?_,fun k e=>⟨?_,?_⟩⟩⟩
    ·have:=HXR.out.below b
     rw [hv'] at this
     exact this
    ·rintro (e | e)
     ·exact HX.out.2.2.2.2.1 e
     ·cases e
    ·rintro (f | f)
     ·have:=HX.out.2.2.2.1; omega
     ·cases f
    ·have:=HX.out.2.1; omega)
   have e2:=HR.out.cell 2
   simp only [geS] at e2
   have E2:=qh e2
   have bl:=HR.out.lt
   have BLT:=qh bl
   have ET:=qh (show T=if g2<((loadL l).live:Int) then 15 else 0 from by rw [ET.out,MY.out]; rfl)
   obtain ⟨V,hV⟩:=nmq ((loadL l).live)
   simp only [<-hV] at CL ET
   have R0:=qh (below_drew (Below.refl wr.heap.size wr))
   clear hz hv' sl' hV GL e2
   go_wp2_with fail
   refine wp_region_held_drew (S:=(fun w'=>w'.cell? ⟨w.heap.size,2,none⟩=some (.int .i64 g2))) (by kernel_rfl) (E2.out) (fun gH=>?_)
   refine rgT 0 (v:=?v142) ?y142 gH ?_
   case y142=>(intro v hSw; go_simp<;>rfl)
   refine rgT 2 (v:=?v143) ?y143 gH ?_
   case y143=>(intro v hSw; go_simp<;>rfl)
   refine rgT 3 (v:=?v144) ?y144 gH ?_
   case y144=>(intro v hSw; have y0:=hSw; go_simp<;>rfl)
   try simp only [putS]
   refine rgO 1 fun K hK=>?_
   go_simp
   refine (CL.out _ R0.out).mono ?_
   rintro e w5 ⟨rfl,hb5⟩
   have R5:=qh (R0.out.trans hb5)
   refine hK.out _ _ ((R5.out.cell (p:=⟨w.heap.size,2,none⟩) BLT.out).trans E2.out) (fun gH=>?_)
   clear hK K
   refine rgT 4 (v:=?v145) ?y145 gH ?_
   case y145=>(intro v hSw; go_simp<;>rfl)
   try simp only [putS]
   refine rgD ?_
   have BE:=qh (below_then HB.out.1 R5.out)
   have FW:=qh (FI.out _ R5.out)
   clear hb5 FI CL
   by_cases z2:g2<(V:Int)
   ·have e:=ET.out
    rw [if_pos z2] at e
    subst e
    go_wp2_with fail
    go_ret2
    exact ⟨BE.out,.inl ⟨by decide,rfl⟩⟩
   ·have e:=ET.out
    rw [if_neg z2] at e
    subst e
    go_wp2_with fail
    go_ret2
    exact ⟨BE.out,x,rfl,q,_,A',c',FW.out⟩

end Go.Proofs.YtbfgpdgiaclphaaGreat

namespace Go.Proofs.YtbfgpdgiaclphaaGreat
open Go.RowKit

namespace Ch
variable {L:Ch} {k k':ByteArray} {v:Ver} {l:List Ver} {i:Nat}
theorem pos_of (h:L.Rise) (hi:i<L.length):L.pos (L.key i)=i:=by
 rcases Nat.lt_trichotomy (L.pos (L.key i)) i with q | q | q
 ·have:=stop (L:=L) (k:=L.key i) (by omega)
  rw [rise_at h q hi] at this; cases this
 ·exact q
 ·have:=below (L:=L) (k:=L.key i) q
  rw [ltB_irr] at this; cases this
theorem has_at (h:L.Rise) (hi:i<L.length):L.has (L.key i)=true:=(has_iff L _).2 ⟨by rw [pos_of h hi]; exact hi,by rw [pos_of h hi]⟩
theorem of_at (h:L.Rise) (hi:i<L.length):L.of (L.key i)=L.chn i:=by
 unfold of
 rw [has_at h hi,if_pos rfl,pos_of h hi]
theorem mem_at:(k,l) ∈ L↔∃ i,i<L.length∧L.key i=k∧L.chn i=l:=by
 constructor
 ·intro h
  obtain ⟨i,hi,e⟩:=List.mem_iff_getElem.1 h
  rw [getE L hi] at e
  injection e with e1 e2
  exact ⟨i,hi,e1,e2⟩
 ·rintro ⟨i,hi,e1,e2⟩
  refine List.mem_iff_getElem.2 ⟨i,hi,?_⟩
  rw [getE L hi,e1,e2]
theorem of_mem (h:L.Rise) (hm:(k,l) ∈ L):L.of k=l:=by
 obtain ⟨i,hi,rfl,rfl⟩:=mem_at.1 hm
 exact of_at h hi
theorem has_mem (hm:(k,l) ∈ L) (h:L.Rise):L.has k=true:=by
 obtain ⟨i,hi,rfl,rfl⟩:=mem_at.1 hm
 exact has_at h hi
theorem mem_has (h:L.has k=true):(k,L.of k) ∈ L:=by
 obtain ⟨p,e⟩:=(has_iff L k).1 h
 refine mem_at.2 ⟨L.pos k,p,e,?_⟩
 unfold of
 rw [if_pos h]
theorem of_no (h:L.has k=false):L.of k=[]:=by unfold of; rw [h]; rfl
theorem mem_put (h:L.Rise) {y:ByteArray × List Ver}:y ∈ L.put k v↔y=(k,L.of k++[v])∨(y ∈ L∧y.1≠k):=by
 obtain ⟨a,b⟩:=y
 cases q:L.has k with
 | true =>
  obtain ⟨p,e⟩:=(has_iff L k).1 q
  have eo:L.of k=L.chn (L.pos k):=by unfold of; rw [if_pos q]
  have el:(L.put k v).length=L.length:=by unfold put; rw [if_pos q,List.length_set]
  rw [eo]
  constructor
  ·intro hm
   obtain ⟨i,hi,hy⟩:=List.mem_iff_getElem.1 hm
   rw [el] at hi
   have:=put_old (v:=v) q hi
   rw [List.getElem?_eq_getElem (by rw [el]; exact hi),hy] at this
   injection this with this
   by_cases z:i=L.pos k
   ·rw [if_pos z] at this; exact .inl this
   ·rw [if_neg z] at this
    injection this with e1 e2
    refine .inr ⟨mem_at.2 ⟨i,hi,e1.symm,e2.symm⟩,?_⟩
    show a≠k
    rw [e1]
    rcases Nat.lt_or_ge i (L.pos k) with w | w
    ·exact ne_below w
    ·exact ne_above h (by omega) hi
  ·rintro (hy | ⟨hm,hn⟩)
   ·rw [hy]
    refine List.mem_iff_getElem.2 ⟨L.pos k,by rw [el]; exact p,?_⟩
    have:=put_old (v:=v) q p
    rw [List.getElem?_eq_getElem (by rw [el]; exact p),if_pos rfl] at this
    injection this
   ·obtain ⟨i,hi,e1,e2⟩:=mem_at.1 hm
    have z:i≠L.pos k:=fun z=>hn (by show a=k; rw [<-e1,z,e])
    refine List.mem_iff_getElem.2 ⟨i,by rw [el]; exact hi,?_⟩
    have:=put_old (v:=v) q hi
    rw [List.getElem?_eq_getElem (by rw [el]; exact hi),if_neg z] at this
    injection this with this
    rw [this,e1,e2]
 | false =>
  have ep:L.put k v=L.take (L.pos k)++(k,[v]) :: L.drop (L.pos k):=by unfold put; rw [q]; rfl
  rw [ep,of_no q,List.nil_append,List.mem_append,List.mem_cons]
  have hl:∀ y:ByteArray × List Ver,y ∈ L↔y ∈ L.take (L.pos k)∨y ∈ L.drop (L.pos k):=fun y=>by rw [<-List.mem_append,List.take_append_drop]
  constructor
  ·rintro (hm | hm | hm)
   ·have hm':=(hl (a,b)).2 (.inl hm)
    exact .inr ⟨hm',fun e=>by have:=has_mem hm' h; rw [show (a,b).1=a from rfl] at e; rw [e,q] at this; cases this⟩
   ·exact .inl hm
   ·have hm':=(hl (a,b)).2 (.inr hm)
    exact .inr ⟨hm',fun e=>by have:=has_mem hm' h; rw [show (a,b).1=a from rfl] at e; rw [e,q] at this; cases this⟩
  ·rintro (hm | ⟨hm,_⟩)
   ·exact .inr (.inl hm)
   ·rcases (hl (a,b)).1 hm with w | w
    ·exact .inl w
    ·exact .inr (.inr w)
theorem rise_put (h:L.Rise):(L.put k v).Rise:=by
 cases q:L.has k with
 | true =>
  obtain ⟨p,e⟩:=(has_iff L k).1 q
  have el:(L.put k v).length=L.length:=by unfold put; rw [if_pos q,List.length_set]
  have at_:∀ i (hi:i<(L.put k v).length),((L.put k v)[i]).1=L.key i:=fun i hi=>by
   have:=put_old (v:=v) q (i:=i) (by omega)
   rw [List.getElem?_eq_getElem hi] at this
   injection this with this
   rw [this]
   by_cases z:i=L.pos k
   ·rw [if_pos z,z]; exact e.symm
   ·rw [if_neg z]
  refine List.pairwise_iff_getElem.2 fun i j hi hj hij=>?_
  rw [at_ i hi,at_ j hj]
  exact rise_at h hij (by omega)
 | false =>
  have ep:L.put k v=L.take (L.pos k)++(k,[v]) :: L.drop (L.pos k):=by unfold put; rw [q]; rfl
  rw [ep]
  have ht:∀ y,y ∈ L.take (L.pos k)->ltB y.1 k=true:=fun y hy=>by
   obtain ⟨i,hi,rfl⟩:=List.mem_iff_getElem.1 hy
   rw [List.length_take] at hi
   rw [List.getElem_take,getE L (by omega)]
   exact below (by omega)
  have hd:∀ y,y ∈ L.drop (L.pos k)->ltB k y.1=true:=fun y hy=>by
   obtain ⟨i,hi,rfl⟩:=List.mem_iff_getElem.1 hy
   rw [List.length_drop] at hi
   rw [List.getElem_drop,getE L (by omega)]
   by_cases z:i=0
   ·subst z; exact not_has q (by omega)
   ·exact above h (by omega) (by omega)
  refine List.pairwise_append.2 ⟨h.sublist (List.take_sublist _ _),List.pairwise_cons.2 ⟨fun y hy=>hd y hy,h.sublist (List.drop_sublist _ _)⟩,fun y hy z hz=>?_⟩
  rcases List.mem_cons.1 hz with e | hz
  ·rw [e]; exact ht y hy
  ·exact ltB_trans (ht y hy) (hd z hz)
theorem of_put (h:L.Rise):(L.put k v).of k'=if k'=k then L.of k++[v] else L.of k':=by
 by_cases z:k'=k
 ·rw [if_pos z,z]
  exact of_mem (rise_put h) ((mem_put h).2 (.inl rfl))
 ·rw [if_neg z]
  cases q:L.has k' with
  | true=>exact of_mem (rise_put h) ((mem_put h).2 (.inr ⟨mem_has q,z⟩))
  | false =>
   rw [of_no q]
   cases p:(L.put k v).has k' with
   | false=>exact of_no p
   | true =>
    rcases (mem_put h).1 (mem_has p) with e | ⟨e,_⟩
    ·injection e with e1 _; exact absurd e1 z
    ·have:=has_mem e h; rw [q] at this; cases this
theorem put_len_le:(L.put k v).length<=L.length+1:=by
 rw [put_len]
 split<;>omega
theorem of_swept (h:L.Rise) (f:Int):(L.swept f).of k=sweepL (L.of k) f:=by
 have hr:(L.swept f).Rise:=by
  unfold Rise swept
  refine List.Pairwise.filter _ ?_
  rw [List.pairwise_map]
  exact h
 by_cases z:sweepL (L.of k) f=[]
 ·rw [z]
  cases p:(L.swept f).has k with
  | false=>exact of_no p
  | true =>
   have hm:=mem_has p
   obtain ⟨y,hy,e⟩:=mem_swept hm
   have e1:=of_mem h hy
   have e:(L.swept f).of k=sweepL y f:=e
   rw [e,<-e1,z]
 ·have hk:L.has k=true:=by
   cases p:L.has k with
   | true=>rfl
   | false=>rw [of_no p] at z; exact absurd (by unfold sweepL; rw [List.drop_nil]) z
  refine of_mem hr ?_
  unfold swept
  refine List.mem_filter.2 ⟨List.mem_map.2 ⟨(k,L.of k),mem_has hk,rfl⟩,?_⟩
  cases e:sweepL (L.of k) f with
  | nil=>exact absurd e z
  | cons _ _=>rfl
end Ch

theorem snoc_get {l:List Ver} {v:Ver} {i:Nat} (h:i<l.length):(l++[v]).getD i Ver.Z=l.getD i Ver.Z:=by
 rw [List.getD_eq_getElem?_getD,List.getD_eq_getElem?_getD,List.getElem?_append_left h]
theorem snoc_last (l:List Ver) (v:Ver):(l++[v]).getD l.length Ver.Z=v:=by
 rw [List.getD_eq_getElem?_getD,List.getElem?_append_right (Nat.le_refl _)]; simp
def lastS (l:List Ver):Int:=if l.length=0 then 0 else (lastL l).seq
theorem rightL_snoc {l:List Ver} {v:Ver} (h:rightL l=true) (hv:mayV (lastS l) v=true):rightL (l++[v])=true:=by
 rw [rightL_iff] at h ⊢
 intro i hi
 rw [List.length_append] at hi
 by_cases z:i<l.length
 ·rw [snoc_get z]
  have:=h i z
  unfold prevS at this ⊢
  by_cases e:i=0
  ·rw [if_pos e] at this ⊢; exact this
  ·rw [if_neg e] at this ⊢; rw [snoc_get (by omega)]; exact this
 ·have e:i=l.length:=by simp at hi; omega
  rw [e,snoc_last]
  unfold prevS
  unfold lastS at hv
  by_cases e0:l.length=0
  ·rw [if_pos e0] at hv ⊢; exact hv
  ·rw [if_neg e0] at hv ⊢; rw [snoc_get (by omega)]; exact hv
theorem lastS_le {l:List Ver} {q:Int} (h:∀ y,y ∈ l->y.seq<=q) (hq:0<=q):lastS l<=q:=by
 unfold lastS
 by_cases e:l.length=0
 ·rw [if_pos e]; exact hq
 ·rw [if_neg e]
  refine h _ ?_
  unfold lastL
  rw [List.getD_eq_getElem?_getD,List.getElem?_eq_getElem (by omega)]
  exact List.getElem_mem _
structure OkL (L:Ch) (q:Int):Prop where
 rise:L.Rise
 ne:∀ x,x ∈ L->x.2≠[]
 right:∀ x,x ∈ L->rightL x.2=true
 le:∀ x,x ∈ L->∀ y,y ∈ x.2->y.seq<=q
 key:∀ x,x ∈ L->keyOk x.1=true
 fits:∀ x,x ∈ L->FitsL x.2
namespace OkL
variable {L:Ch} {q q':Int} {k:ByteArray} {v:Ver}
theorem nil (q:Int):OkL [] q:=⟨List.Pairwise.nil,fun _ h=>(by cases h),fun _ h=>(by cases h),fun _ h=>(by cases h),fun _ h=>(by cases h),fun _ h=>(by cases h)⟩
theorem of_right (h:OkL L q) (k:ByteArray):rightL (L.of k)=true:=by
 cases p:L.has k with
 | true=>exact h.right _ (Ch.mem_has p)
 | false=>rw [Ch.of_no p]; rfl
theorem of_le (h:OkL L q) (k:ByteArray):∀ y,y ∈ L.of k->y.seq<=q:=by
 cases p:L.has k with
 | true=>exact h.le _ (Ch.mem_has p)
 | false=>rw [Ch.of_no p]; exact fun _ h=>by cases h
theorem of_fits (h:OkL L q) (k:ByteArray):FitsL (L.of k):=by
 cases p:L.has k with
 | true=>exact h.fits _ (Ch.mem_has p)
 | false=>rw [Ch.of_no p]; exact fun _ h=>by cases h
theorem put (h:OkL L q) (hk:keyOk k=true) (hv:mayV (lastS (L.of k)) v=true) (hs:v.seq<=q') (hq:q<=q') (hf:v.val.Fits):OkL (L.put k v) q':=by
 refine ⟨Ch.rise_put h.rise,fun x hx=>?_,fun x hx=>?_,fun x hx=>?_,fun x hx=>?_,fun x hx=>?_⟩
 all_goals rcases (Ch.mem_put h.rise).1 hx with rfl | ⟨hm,_⟩
 ·simp
 ·exact h.ne x hm
 ·exact rightL_snoc (h.of_right k) hv
 ·exact h.right x hm
 ·intro y hy
  rcases List.mem_append.1 hy with e | e
  ·have:=h.of_le k y e; omega
  ·simp at e; rw [e]; exact hs
 ·exact fun y hy=>by have:=h.le x hm y hy; omega
 ·exact hk
 ·exact h.key x hm
 ·intro y hy
  rcases List.mem_append.1 hy with e | e
  ·exact h.of_fits k y e
  ·simp at e; rw [e]; exact hf
 ·exact h.fits x hm
theorem swept (h:OkL L q) (f:Int):OkL (L.swept f) q:=by
 refine ⟨?_,fun x hx=>?_,fun x hx=>?_,fun x hx=>?_,fun x hx=>?_,fun x hx=>?_⟩
 ·unfold Ch.Rise Ch.swept
  refine List.Pairwise.filter _ ?_
  rw [List.pairwise_map]
  exact h.rise
 ·unfold Ch.swept at hx
  have:=(List.mem_filter.1 hx).2
  intro e
  rw [e] at this; cases this
 ·obtain ⟨y,hy,e⟩:=mem_swept hx
  rw [e]; exact right_drop (h.right _ hy) _
 ·obtain ⟨y,hy,e⟩:=mem_swept hx
  rw [e]; exact fun z hz=>h.le _ hy z (List.mem_of_mem_drop hz)
 ·obtain ⟨y,hy,e⟩:=mem_swept hx
  exact h.key (x.1,y) hy
 ·obtain ⟨y,hy,e⟩:=mem_swept hx
  rw [e]; exact fun z hz=>h.fits _ hy z (List.mem_of_mem_drop hz)
end OkL

end Go.Proofs.YtbfgpdgiaclphaaGreat

namespace Go.Proofs.YtbfgpdgiaclphaaGreat
open Go.RowKit

theorem Val.ok_txt {x:Val} (h:x.ok=true):x.txt.size<=64:=by
 unfold Val.ok at h
 split at h
 ·simp only [Bool.and_eq_true,decide_eq_true_eq] at h; omega
 ·simp only [Bool.and_eq_true,decide_eq_true_eq] at h; exact h.2
theorem right_ok {l:List Ver} (h:rightL l=true) {y:Ver} (hy:y ∈ l):y.val.ok=true:=by
 obtain ⟨i,hi,rfl⟩:=List.mem_iff_getElem.1 hy
 have:=(rightL_iff l).1 h i hi
 unfold mayV at this
 simp only [Bool.and_eq_true] at this
 have h2:=this.2.2.1
 rwa [List.getD_eq_getElem?_getD,List.getElem?_eq_getElem hi] at h2
def Bnd (L:Ch) (K N:Nat):Prop:=L.length<=K∧∀ k,(L.of k).length<=N
theorem Bnd.mem {L:Ch} {K N:Nat} (h:Bnd L K N) (hr:L.Rise):∀ x,x ∈ L->x.2.length<=N:=fun x hx=>by
 obtain ⟨a,b⟩:=x
 rw [<-Ch.of_mem hr hx]
 exact h.2 a
theorem Bnd.mono {L:Ch} {K N K' N':Nat} (h:Bnd L K N) (hK:K<=K') (hN:N<=N'):Bnd L K' N':=⟨Nat.le_trans h.1 hK,fun k=>Nat.le_trans (h.2 k) hN⟩
theorem Bnd.swept {L:Ch} {K N:Nat} (h:Bnd L K N) (hr:L.Rise) (f:Int):Bnd (L.swept f) K N :=
 ⟨Nat.le_trans (swept_len L f) h.1,fun k=>by rw [Ch.of_swept hr]; unfold sweepL; rw [List.length_drop]; have:=h.2 k; omega⟩
theorem OkL.good {L:Ch} {q:Int} {K N:Nat} (h:OkL L q) (hb:Bnd L K N) (hK:K<=100000) (hN:N<=1000):GoodC L:=by
 refine ⟨Nat.le_trans hb.1 hK,h.fits,fun x hx y hy=>?_,fun x hx=>Nat.le_trans (hb.mem h.rise x hx) hN,fun x hx=>?_,h.rise,fun x hx=>rise_of_right (h.right x hx)⟩
 ·have:=Val.ok_txt (right_ok (h.right x hx) hy); omega
 ·have:=h.key x hx
  unfold keyOk at this
  simp only [Bool.and_eq_true,decide_eq_true_eq] at this
  omega
theorem mayW_at {l:List Wr} (h:mayW l=true) {i:Nat} (hi:i<l.length):wrOk (prevW l i) (l.getD i Wr.Z)=true:=by
 unfold mayW at h
 simp only [Bool.and_eq_true,List.all_eq_true,List.mem_range] at h
 exact h.2.2 i hi
theorem mayW_rise {l:List Wr} (h:mayW l=true) {i j:Nat} (hij:i<j) (hj:j<l.length):ltB (l.getD i Wr.Z).key (l.getD j Wr.Z).key=true:=by
 have step:∀ j,j+1<l.length->ltB (l.getD j Wr.Z).key (l.getD (j+1) Wr.Z).key=true:=fun j hj=>by
  have:=mayW_at h hj
  rw [prevW_succ] at this
  unfold wrOk at this
  simp only [Bool.and_eq_true] at this
  exact this.2.2.2
 obtain ⟨d,rfl⟩:∃ d,j=i+1+d:=⟨j-i-1,by omega⟩
 clear hij
 induction d with
 | zero=>exact step i hj
 | succ d ih=>exact ltB_trans (ih (by omega)) (step (i+1+d) (by omega))
theorem mayW_size {l:List Wr} (h:mayW l=true):l.length<=16:=by
 unfold mayW at h
 simp only [Bool.and_eq_true,decide_eq_true_eq] at h
 exact h.2.1
theorem withW_keeps {L:Ch} {q:Int} {ws:List Wr} {K N:Nat} (h:OkL L q) (hb:Bnd L K N) (hq0:0<=q) (hq:q+1<=1073741824) (hm:mayW ws=true) (hf:FitsW ws):∀ i,i<=ws.length →
  OkL (L.withW (ws.take i) (q+1)) (q+1)∧(∀ k,(∀ j,j<i->(ws.getD j Wr.Z).key≠k)->(L.withW (ws.take i) (q+1)).of k=L.of k)∧Bnd (L.withW (ws.take i) (q+1)) (K+i) (N+1)
 | 0,_=>by
  rw [List.take_zero]
  exact ⟨⟨h.rise,h.ne,h.right,fun x hx y hy=>by have:=h.le x hx y hy; omega,h.key,h.fits⟩,fun _ _=>rfl,hb.mono (Nat.le_refl _) (by omega)⟩
 | i+1,hi=>by
  obtain ⟨o,e,b⟩:=withW_keeps h hb hq0 hq hm hf i (by omega)
  rw [withW_succ L ws (q+1) (by omega)]
  have ne:∀ j,j<i->(ws.getD j Wr.Z).key≠(ws.getD i Wr.Z).key:=fun j hj e=>by
   have:=mayW_rise hm hj (by omega)
   rw [e,ltB_irr] at this; cases this
  have eo:=e _ ne
  have hw:=mayW_at hm (i:=i) (by omega)
  unfold wrOk at hw
  simp only [Bool.and_eq_true] at hw
  have hl:=lastS_le (h.of_le (ws.getD i Wr.Z).key) hq0
  have gz:(!(ws.getD i Wr.Z).gone || (ws.getD i Wr.Z).val.isZ)=true:=hw.2.2.1
  refine ⟨o.put hw.1 ?_ (Int.le_refl _) (Int.le_refl _) (hf.get (by omega)).1,fun k hk=>?_,?_,fun k=>?_⟩
  ·rw [eo]
   unfold mayV Wr.ver
   simp only [Bool.and_eq_true,decide_eq_true_eq]
   exact ⟨by omega,hq,hw.2.1,gz⟩
  ·rw [Ch.of_put o.rise,if_neg (fun z=>hk i (by omega) z.symm)]
   exact e k fun j hj=>hk j (by omega)
  ·have:=Ch.put_len_le (L:=L.withW (ws.take i) (q+1)) (k:=(ws.getD i Wr.Z).key) (v:=(ws.getD i Wr.Z).ver (q+1))
   have:=b.1
   omega
  ·rw [Ch.of_put o.rise]
   by_cases z:k=(ws.getD i Wr.Z).key
   ·rw [if_pos z,eo,List.length_append]
    have:=hb.2 (ws.getD i Wr.Z).key
    rw [List.length_singleton]; omega
   ·rw [if_neg z]; exact b.2 k
theorem OkL.with {L:Ch} {q:Int} {ws:List Wr} {K N:Nat} (h:OkL L q) (hb:Bnd L K N) (hq0:0<=q) (hq:q+1<=1073741824) (hm:mayW ws=true) (hf:FitsW ws):OkL (L.withW ws (q+1)) (q+1)∧Bnd (L.withW ws (q+1)) (K+16) (N+1):=by
 obtain ⟨a,_,c⟩:=withW_keeps h hb hq0 hq hm hf ws.length (Nat.le_refl _)
 rw [List.take_length] at a c
 exact ⟨a,c.mono (by have:=mayW_size hm; omega) (Nat.le_refl _)⟩
theorem OkL.goods {L:Ch} {q:Int} {ws:List Wr} {K N:Nat} (h:OkL L q) (hb:Bnd L K N) (hq0:0<=q) (hq:q+1<=1073741824) (hm:mayW ws=true) (hf:FitsW ws) (hK:K<=9000) (hN:N<=900) :
  ∀ i,i<=ws.length->GoodC (L.withW (ws.take i) (q+1))∧(L.withW (ws.take i) (q+1)).length<=10000:=fun i hi=>by
 obtain ⟨a,_,c⟩:=withW_keeps h hb hq0 hq hm hf i hi
 have:=mayW_size hm
 exact ⟨a.good c (by omega) (by omega),by have:=c.1; omega⟩
theorem OkL.load {l:List En} {sq:Int} (h:mayE l sq=true) (hf:FitsE l) (hs:sq<=1073741824):OkL (loadL l) sq∧Bnd (loadL l) l.length 1:=by
 have mem:∀ x,x ∈ loadL l->∃ i,i<l.length∧x=((l.getD i En.Z).key,[(l.getD i En.Z).ver]):=fun x hx=>by
  obtain ⟨y,hy,rfl⟩:=List.mem_map.1 hx
  obtain ⟨i,hi,rfl⟩:=List.mem_iff_getElem.1 hy
  exact ⟨i,hi,by rw [List.getD_eq_getElem?_getD,List.getElem?_eq_getElem hi]; rfl⟩
 have ok:∀ i,i<l.length->enOk (prevE l i) sq (l.getD i En.Z)=true:=fun i hi=>by
  unfold mayE at h
  simp only [List.all_eq_true,List.mem_range] at h
  exact h i hi
 have ri:=loadL_rise h
 refine ⟨⟨ri,fun x hx=>?_,fun x hx=>?_,fun x hx y hy=>?_,fun x hx=>?_,fun x hx=>?_⟩,by rw [loadL_len]; exact Nat.le_refl _,fun k=>?_⟩
 ·obtain ⟨i,hi,rfl⟩:=mem x hx; simp
 ·obtain ⟨i,hi,rfl⟩:=mem x hx
  have:=ok i hi
  unfold enOk at this
  simp only [Bool.and_eq_true,decide_eq_true_eq] at this
  refine rightL_snoc (l:=[]) rfl ?_
  unfold mayV En.ver lastS
  simp only [Bool.and_eq_true,decide_eq_true_eq]
  exact ⟨by show (0:Int)<_; have:=this.2.2.1; omega,by have:=this.2.2.2.1; omega,this.2.1,rfl⟩
 ·obtain ⟨i,hi,rfl⟩:=mem x hx
  have:=ok i hi
  unfold enOk at this
  simp only [Bool.and_eq_true,decide_eq_true_eq] at this
  simp at hy
  rw [hy]
  exact this.2.2.2.1
 ·obtain ⟨i,hi,rfl⟩:=mem x hx
  have:=ok i hi
  unfold enOk at this
  simp only [Bool.and_eq_true] at this
  exact this.1
 ·obtain ⟨i,hi,rfl⟩:=mem x hx
  intro z hz
  simp at hz
  rw [hz]
  exact (hf.get hi).1
 ·cases p:(loadL l).has k with
  | false=>rw [Ch.of_no p]; simp
  | true =>
   obtain ⟨i,hi,e⟩:=mem _ (Ch.mem_has p)
   injection e with _ e
   rw [e]; exact Nat.le_refl 1

theorem ents_mem {L:Ch} (h:L.Rise) (s:Int) {e:En}:e ∈ L.ents s↔atOk (L.of e.key) s=true∧e.seq=(atL (L.of e.key) s).seq∧e.val=(atL (L.of e.key) s).val:=by
 unfold Ch.ents
 rw [List.mem_filterMap]
 constructor
 ·rintro ⟨⟨k,l⟩,hm,he⟩
  have eo:=Ch.of_mem h hm
  cases z:atOk l s with
  | false=>simp [z] at he
  | true =>
   simp only [z,if_pos] at he
   injection he with he
   subst he
   rw [eo]
   exact ⟨z,rfl,rfl⟩
 ·rintro ⟨z,e1,e2⟩
  have hk:L.has e.key=true:=by
   cases p:L.has e.key with
   | true=>rfl
   | false=>rw [Ch.of_no p] at z; cases z
  refine ⟨(e.key,L.of e.key),Ch.mem_has hk,?_⟩
  simp only [z,if_pos]
  rw [<-e1,<-e2]
theorem ents_rise {L:Ch} (h:L.Rise) (s:Int):(L.ents s).Pairwise fun x y=>ltB x.key y.key=true:=by
 unfold Ch.ents
 rw [List.pairwise_filterMap]
 refine h.imp fun {x y} hxy a ha b hb=>?_
 split at ha
 ·injection ha with ha
  split at hb
  ·injection hb with hb
   rw [<-ha,<-hb]; exact hxy
  ·cases hb
 ·cases ha
theorem eq_of_mem:∀ {a b:List En},(a.Pairwise fun x y=>ltB x.key y.key=true)->(b.Pairwise fun x y=>ltB x.key y.key=true)->(∀ e,e ∈ a↔e ∈ b)->a=b
 | [],[],_,_,_=>rfl
 | [],y :: b,_,_,h=>by have:=(h y).2 (by simp); cases this
 | x :: a,[],_,_,h=>by have:=(h x).1 (by simp); cases this
 | x :: a,y :: b,ha,hb,h=>by
  obtain ⟨hx,pa⟩:=List.pairwise_cons.1 ha
  obtain ⟨hy,pb⟩:=List.pairwise_cons.1 hb
  have exy:x=y:=by
   rcases List.mem_cons.1 ((h x).1 (by simp)) with e | e
   ·exact e
   ·rcases List.mem_cons.1 ((h y).2 (by simp)) with e2 | e2
    ·exact e2.symm
    ·have h1:=hy x e
     have h2:=hx y e2
     rw [ltB_asym h1] at h2; cases h2
  subst exy
  refine congrArg (List.cons x) (eq_of_mem pa pb fun e=>?_)
  constructor
  ·intro he
   rcases List.mem_cons.1 ((h e).1 (List.mem_cons_of_mem _ he)) with z | z
   ·have:=hx e he
    rw [z,ltB_irr] at this; cases this
   ·exact z
  ·intro he
   rcases List.mem_cons.1 ((h e).2 (List.mem_cons_of_mem _ he)) with z | z
   ·have:=hy e he
    rw [z,ltB_irr] at this; cases this
   ·exact z
theorem ents_eq {La Lb:Ch} (ha:La.Rise) (hb:Lb.Rise) (s:Int) (h:∀ k,atOk (La.of k) s=atOk (Lb.of k) s∧atL (La.of k) s=atL (Lb.of k) s):La.ents s=Lb.ents s :=
 eq_of_mem (ents_rise ha s) (ents_rise hb s) fun e=>by
  rw [ents_mem ha,ents_mem hb,(h e.key).1,(h e.key).2]
theorem cnt_all {q:Int}:∀ {l:List Ver},(∀ y,y ∈ l->y.seq<=q)->cnt q l=l.length
 | [],_=>rfl
 | x :: l,h=>by
  unfold cnt
  rw [if_pos (h x (by simp)),cnt_all fun y hy=>h y (List.mem_cons_of_mem _ hy),List.length_cons]
def En.w (e:En):Nat:=if e.val.pack.size=0 then 0 else e.val.pack.size+e.key.size
theorem wgt_at {x:ByteArray × List Ver} {q:Int} (h:∀ y,y ∈ x.2->y.seq<=q):Ch.wgt x=if atOk x.2 q=true then En.w ⟨x.1,(atL x.2 q).seq,(atL x.2 q).val⟩ else 0:=by
 have c:=cnt_all h
 have eo:atOk x.2 q=(decide (0<x.2.length) && !(lastL x.2).gone):=by unfold atOk lastL; rw [c]
 cases z:atOk x.2 q with
 | false =>
  rw [if_neg (by simp)]
  rw [z] at eo
  unfold Ch.wgt
  rw [if_pos]
  unfold weightL
  rw [if_pos]
  by_cases e:x.2.length=0
  ·exact .inl e
  ·rw [decide_eq_true (by omega),Bool.true_and] at eo
   exact .inr (by simpa using eo.symm)
 | true =>
  rw [if_pos rfl]
  have el:atL x.2 q=lastL x.2:=by unfold atL; rw [z,if_pos rfl,c]; rfl
  rw [el]
  rw [z] at eo
  have eo:=eo.symm
  simp only [Bool.and_eq_true,decide_eq_true_eq] at eo
  have wl:weightL x.2=(lastL x.2).val.pack.size:=by
   unfold weightL
   rw [if_neg]
   rintro (e | e)
   ·omega
   ·rw [e] at eo; simp at eo
  unfold Ch.wgt En.w
  rw [wl]
theorem live_ents {q:Int}:∀ {L:Ch},(∀ x,x ∈ L->∀ y,y ∈ x.2->y.seq<=q)->L.live=((L.ents q).map En.w).sum
 | [],_=>rfl
 | x :: L,h=>by
  have ih:=live_ents (L:=L) fun y hy=>h y (List.mem_cons_of_mem _ hy)
  have e:=wgt_at (q:=q) (h x (by simp))
  unfold Ch.live at ih ⊢
  unfold Ch.ents at ih ⊢
  rw [List.map_cons,List.sum_cons,ih,e,List.filterMap_cons]
  cases z:atOk x.2 q with
  | false=>simp
  | true=>simp

end Go.Proofs.YtbfgpdgiaclphaaGreat
