/- Proved parts: A0p. Conditions: each theorem's own. -/
import Derived.Test.YtoljhoabbaigdaaGreatM39
import Derived.Test.YtoljhoabbaigdaaGreatM23
import Derived.Deep.RegionLaw
import Derived.Lib.SliceRun
import Derived.Test.YtoljhoabbaigdaaGreatQ2
set_option maxRecDepth 100000
set_option maxHeartbeats 8000000
namespace Go.Proofs.YtoljhoabbaigdaaGreat
open Go.RowKit

namespace Rg
def kept (r:Rg):List Int:=r.l.drop (r.l.length-r.size)
theorem kept_len (r:Rg):r.kept.length=min r.l.length r.size:=by unfold kept; rw [List.length_drop]; omega
theorem kept_at (r:Rg) (i:Nat):r.kept.getD i 0=r.l.getD (r.l.length-r.size+i) 0:=by
 unfold kept
 rw [List.getD_eq_getElem?_getD,List.getElem?_drop,<-List.getD_eq_getElem?_getD]
theorem kept_last {r:Rg} (h:r.Ok) (hp:0<r.l.length):r.kept.getD (r.kept.length-1) 0=r.last:=by
 have s1:=h.s1
 rw [kept_at,kept_len]
 unfold last
 rw [if_neg (by omega)]
 congr 1
 omega
theorem kept_more {r:Rg} (x:Int) (hp:r.l.length<r.size):kept ⟨r.size,r.beg,r.l++[x]⟩=r.kept++[x]:=by
 unfold kept
 show (r.l++[x]).drop ((r.l++[x]).length-r.size)=_
 rw [List.length_append,show r.l.length+[x].length-r.size=0 by simp; omega,show r.l.length-r.size=0 by omega]
 rfl
theorem kept_full {r:Rg} (h:r.Ok) (x:Int) (hp:r.size<=r.l.length):kept ⟨r.size,r.beg,r.l++[x]⟩=(r.kept++[x]).drop 1:=by
 have s1:=h.s1
 unfold kept
 show (r.l++[x]).drop ((r.l++[x]).length-r.size)=_
 rw [List.length_append,show r.l.length+[x].length-r.size=r.l.length-r.size+1 by simp; omega]
 rw [List.drop_append_of_le_length (by omega),List.drop_append_of_le_length (by rw [List.length_drop]; omega),List.drop_drop]
end Rg

theorem midU {w:World} {b o:Nat} {cs:List Value} (h:w.rangeAt b o cs):∀ j v,cs[j]?=some v->w.cell? ((⟨b,o,none⟩:Addr).add j)=some v:=fun j v hj=>by rw [Addr.add_mid]; exact h j v hj
theorem ints_one (l:List Int):∀ u ∈ l.map (Value.int .u64),u.oneCell'=true:=by
 intro u hu
 obtain ⟨x,_,rfl⟩:=List.mem_map.1 hu
 rfl

theorem xDelU (w:World) (B:Nat) (v:Value) (zs:List Int) (i:Nat) (h:Own w B v zs) (hi:i+1<zs.length) (hl:zs.length<=100000) :
  Calls Tryz.prog 71 #[v,.int .i64 i,.int .i64 ((i:Int)+1)] w fun e w'=>∃ v',e=.returned v'∧Own w' B v' (zs.take i++zs.drop (i+1))∧v'.ownBlock=v.ownBlock∧Chg (fun k=>v.ownBlock=some k) w w':=by
 rcases h.2 with ⟨rfl,hn⟩ | ⟨b,c,cur,rfl,hB,hg,hnc,hcm,hs,ht⟩
 ·omega
 obtain ⟨L,hL⟩:=nmq (cur.toList)
 have row:RowAt w b L 57:=by unfold RowAt; rw [hg,hL]
 have ll:L.length=c:=by rw [hL,Array.length_toList]; omega
 rw [<-hL,Nat.mul_one] at ht
 obtain ⟨n,hn⟩:=nmq (zs.length)
 obtain ⟨C0,hC0⟩:=nmq ((zs.take i).map (Value.int .u64))
 obtain ⟨C1,hC1⟩:=nmq ((zs.drop (i+1)).map (Value.int .u64))
 have c0l:C0.length=i:=by rw [hC0,List.length_map,List.length_take]; omega
 have c1l:C1.length=n-(i+1):=by rw [hC1,List.length_map,List.length_drop,hn]
 have c1o:∀ u ∈ C1,u.oneCell'=true:=by rw [hC1]; exact ints_one _
 have lt:∀ j,j<n->L[j]?=(zs.map (Value.int .u64))[j]?:=fun j hj=>by rw [<-ht,List.getElem?_take,if_pos (by omega)]
 have src:w.rangeAt b (i+1) C1:=row.mid fun j u hj=>by
  have hj':=(List.getElem?_eq_some_iff.1 hj).1
  rw [lt _ (by omega),<-hj,hC1,List.getElem?_map,List.getElem?_map,List.getElem?_drop]
 have th:=row.there (o:=i) (n:=C1.length) (by omega)
 have l0:L.take i=C0:=by
  have:(L.take n).take i=L.take i:=by rw [List.take_take,Nat.min_eq_left (by omega)]
  rw [<-this,hn,ht,hC0,List.map_take]
 have ROW:=qh row
 have LL:=qh ll
 have L0:=qh l0
 have SRC:=qh src
 have TH:=qh th
 have C1O:=qh c1o
 have C1L:=qh c1l
 have C0L:=qh c0l
 have HC1:=qh hC1
 have HC0:=qh hC0
 have HN:=qh hn
 have HB:=qh hB
 have CM:=qh hcm
 rw [<-hn] at hi hl hnc ⊢
 have hb1:(0:Int)<=(i:Int)+1:=by omega
 have htn:((i:Int)+1).toNat=i+1:=by omega
 have hic:i<=c:=by omega
 have hin:i+1<=n:=by omega
 have hin2:(i:Int)+1<=(n:Int):=by omega
 have hne:¬ (c=i+1):=by omega
 obtain ⟨m,hm⟩:=nmq (n-(i+1))
 obtain ⟨i0,hi0,hz0,hz1,hz2⟩:=info_parts infoU
 have HM:=qh hm
 clear h hg hs ht hL row ll hn c0l c1l c1o lt src th l0 hC0 hC1 hB hcm hm
 go_enter Tryz.func71,Tryz.ntmps71
 go_wp2_with fail
 have th:=qh (show ∀ j,j<C1.length->(w.drew.cell? ⟨b,0+i * 1+j,none⟩).isSome=true∧w.drew.frozen? ⟨b,0+i * 1+j,none⟩=false from fun j hj=>by
  rw [show 0+i * 1+j=i+j by omega]; exact TH.out j hj)
 go_region_law (refine step_append_room rfl (.tmp 22) (.tmp 25) 79 rfl 57 i0 1 Tryz.underlying79 hi0 hz1 b 0 i c (by simp [Act.eval,Act.put]) ⟨b,i+1,none⟩ (n-(i+1)) (c-(i+1)) C1 (by simp [Act.eval,Act.put]) (by rw [C1L.out]; omega) (midU (by exact SRC.out)) C1O.out (by omega) th.out ?_)
 rw [<-HM.out]
 have r2:RowAt (w.drew.setCells b i C1) b (over L i C1) 57:=RowAt.setCells C1 _ L w.drew ROW.out (by rw [LL.out,C1L.out]; omega)
 have t2:Chg (fun k=>k=b) w (w.drew.setCells b i C1):=Chg.setCells (F:=fun k=>k=b) (Chg.refl _ w).drew (.inl rfl) _ _
 obtain ⟨M2,hL2⟩:=nmq (over L i C1)
 rw [<-hL2] at r2
 have l2:M2.length=c:=by rw [hL2,over_len _ _ _ (by rw [LL.out,C1L.out]; omega)]; exact LL.out
 have k2:M2.take (i+m)=C0++C1:=by
  rw [hL2]
  unfold over
  rw [L0.out,<-List.append_assoc,List.take_append_of_le_length (by rw [List.length_append,C0L.out,C1L.out,HM.out]; omega),List.take_of_length_le (by rw [List.length_append,C0L.out,C1L.out,HM.out]; omega)]
 generalize w.drew.setCells b i C1=w2 at r2 t2 ⊢
 have mn:i+m+1=n:=by have:=HM.out; omega
 have RC:=fun ty=>Lib.run_clear_slice (P:=Tryz.prog) w2 79 57 ty (.int .u64 0) Tryz.underlying79 (by intro w; rfl) rfl rfl b (i+m) (n-(i+m)) (c-(i+m)) (by omega)
  (fun j hj=>by rw [r2.cell,List.getElem?_eq_getElem (by omega)]; rfl) (fun j _=>r2.frozen _)
 have R2:=qh r2
 have T2:=qh t2
 have L2:=qh l2
 have K2:=qh k2
 have MN:=qh mn
 have hb4:¬ (c=i+m):=by omega
 have hb5:i+m<=n:=by omega
 clear hL2 r2 t2 l2 k2 th mn hi0 hz0 hz1 hz2
 go_wp2_with fail
 go_ret
 have hn:=HN.out
 have mn:=MN.out
 have ez:(zs.take i++zs.drop (i+1)).length=i+m:=by rw [List.length_append,List.length_take,List.length_drop]; omega
 have rl:(List.replicate (n-(i+m)) (Value.int .u64 0)).length=n-(i+m):=List.length_replicate
 have cz:C0++C1=(zs.take i++zs.drop (i+1)).map (Value.int .u64):=by rw [List.map_append,HC0.out,HC1.out]
 have l3:=over_len M2 (i+m) (List.replicate (n-(i+m)) (Value.int .u64 0)) (by rw [rl,L2.out]; omega)
 refine ⟨.slice (some ⟨b,0,none⟩) (i+m) c,rfl,⟨by rw [List.length_map,Nat.mul_one],.inr ⟨b,c,_,by rw [ez],HB.out,RowAt.setCells _ (i+m) _ w2 R2.out (by rw [rl,L2.out]; omega),by omega,CM.out,?_,?_⟩⟩,rfl,?_⟩
 ·rw [List.size_toArray,l3,L2.out,Nat.mul_one]
 ·rw [ez,Nat.mul_one,<-cz,<-K2.out]
  show (over _ (i+m) _).take (i+m)=_
  unfold over
  rw [List.take_append_of_le_length (by rw [List.length_take,L2.out]; omega),List.take_take,Nat.min_self]
 ·refine (Chg.mono (T2.out.setCells (.inl rfl) (i+m) _) fun k e=>?_)
  rw [e]; rfl

end Go.Proofs.YtoljhoabbaigdaaGreat
