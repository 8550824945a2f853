/- Proved parts: B1q. Conditions: each theorem's own. -/
import Derived.Test.YtomjlopcifafpaaGreatM11
import Derived.Test.YtomjlopcifafpaaGreatM12
import Derived.Test.YtomjlopcifafpaaGreatQ1
import Derived.Test.YtomjlopcifafpaaGreatQ2
set_option maxRecDepth 100000
set_option maxHeartbeats 8000000
namespace Go.Proofs.YtomjlopcifafpaaGreat
open Go.RowKit

def putN (L:Ch) (k:ByteArray) (i:Nat):Nat:=if L.has k=false∧L.pos k<i then i+1 else i
theorem take_step {M:Ch} {m:Nat} {x:ByteArray × List Ver} (h:M[m]?=some x):M.take (m+1)=M.take m++[x]:=by
 have hm:=(List.getElem?_eq_some_iff.1 h).1
 rw [List.take_succ_eq_append_getElem hm]
 rw [List.getElem?_eq_getElem hm] at h
 rw [Option.some.inj h]
theorem get_ch (L:Ch) {i:Nat} (hi:i<L.length):L[i]?=some (L.key i,L.chn i):=by rw [List.getElem?_eq_getElem hi,Ch.getE L hi]
theorem put_len {L:Ch} {k:ByteArray} {v:Ver}:(L.put k v).length=if L.has k then L.length else L.length+1:=by
 have:=L.pos_le k
 unfold Ch.put
 split
 ·simp
 ·simp; omega
theorem put_old {L:Ch} {k:ByteArray} {v:Ver} (h:L.has k=true) {i:Nat} (hi:i<L.length):(L.put k v)[i]?=some (if i=L.pos k then (k,L.chn (L.pos k)++[v]) else (L.key i,L.chn i)):=by
 unfold Ch.put
 rw [if_pos h,List.getElem?_set]
 by_cases e:i=L.pos k
 ·rw [if_pos e.symm,if_pos (by omega),if_pos e]
 ·rw [if_neg (fun q=>e q.symm),if_neg e,get_ch L hi]
theorem put_new {L:Ch} {k:ByteArray} {v:Ver} (h:L.has k=false):(∀ i,i<L.pos k->(L.put k v)[i]?=some (L.key i,L.chn i))∧(L.put k v)[L.pos k]?=some (k,[v])∧(∀ i,L.pos k<=i->i<L.length->(L.put k v)[i+1]?=some (L.key i,L.chn i)):=by
 have pl:=L.pos_le k
 have tl:(L.take (L.pos k)).length=L.pos k:=by rw [List.length_take]; omega
 unfold Ch.put
 rw [if_neg (by rw [h]; decide)]
 refine ⟨fun i hi=>?_,?_,fun i h1 h2=>?_⟩
 ·rw [List.getElem?_append_left (by rw [tl]; exact hi),List.getElem?_take,if_pos hi,get_ch L (by omega)]
 ·rw [List.getElem?_append_right (by rw [tl]; exact Nat.le_refl _),tl,Nat.sub_self]; rfl
 ·rw [List.getElem?_append_right (by rw [tl]; omega),tl,show i+1-L.pos k=(i-L.pos k)+1 by omega,List.getElem?_cons_succ,List.getElem?_drop,show L.pos k+(i-L.pos k)=i by omega,get_ch L h2]

theorem zc_new (W:World) (y:ByteArray × Value) (n:Nat) (t:TypeId) (hn:n=W.heap.size):∀ i,i<2->(W.alloc (.cells #[.string y.1,y.2] t)).cell? ⟨n,i,none⟩=(zc y)[i]?:=fun i _=>by
 subst hn
 have r:=RowAt.new W (zc y) t
 exact r.cell i
section
variable {w wr W2 w6:World} {B:Nat} {u v':Value} {zs:Zs} {G:Nat->Prop} {N:Ch}
theorem put_step {A':Option Addr} {m c':Nat} {l:List Ver} (x:ByteArray) (hm:m=l.length) (HO:OwnZ wr B u zs) (HZ:ZL wr (Gn G B u) zs N) (hb:Below wr.heap.size wr W2) (sv:SlVG W2 (Gn G B u) A' l) (hgr:W2.grownBy w6 u.ownBlock)
  (h4:v'.ownBlock=u.ownBlock∨v'.ownBlock=some W2.heap.size) (hG:∀ x,G x->x<B):ZL w6 (Gn G B v') (zs++[(x,.slice A' m c')]) (N++[(x,l)]):=by
 subst hm
 exact ((HZ.below hb).snoc sv).grown hgr h4 hG (fun k e=>(HO.lt k e).1)
theorem put_below (HB:Below B w wr) (HO:OwnZ wr (B+1) u zs) (hB:B<=w.heap.size) (hb:Below wr.heap.size wr W2) (hgr:W2.grownBy w6 u.ownBlock):Below B w w6:=by
 have h1:=HB.trans (hb.mono (Nat.le_trans hB HB.size))
 exact h1.grown hgr (Nat.le_trans hB h1.size) (fun k e=>by have:=(HO.lt k e).1; omega)
theorem row_kept {cs:List Value} {t:TypeId} (h:RowAt W2 B cs t) (HO:OwnZ wr (B+1) u zs) (hgr:W2.grownBy w6 u.ownBlock):RowAt w6 B cs t :=
 (hgr.block B h.lt (fun e=>by have:=(HO.lt B e.symm).1; omega)).trans h
theorem one_kept {n:Nat} {cs:List Value} {t:TypeId} (h:RowAt W2 n cs t) (HO:OwnZ wr (B+1) u zs) (hn:wr.heap.size<=n) (hgr:W2.grownBy w6 u.ownBlock):RowAt w6 n cs t :=
 (hgr.block n h.lt (fun e=>by have:=(HO.lt n e.symm).2; omega)).trans h
theorem verG {w:World} {g:Nat} {t:TypeId} {x:Ver} (h:RowAt w g x.cs t):w.cell? ⟨g,0,none⟩=some (.int .i64 x.seq)∧w.cell? ⟨g,1,none⟩=some (.bool x.gone)∧w.cell? ⟨g,2,none⟩=some (.bool x.val.num)∧w.cell? ⟨g,3,none⟩=some (.string x.val.txt)∧w.cell? ⟨g,4,none⟩=some (.int .u64 (x.val.bits:Int)) :=
 ⟨h.cell 0,h.cell 1,h.cell 2,h.cell 3,h.cell 4⟩
theorem madeZ {n:Nat} (w:World) (hB:B<=w.heap.size) (hn:n=w.heap.size):OwnZ (w.alloc (.cells #[] 176)) B (.slice (some ⟨n,0,none⟩) 0 0) []:=by
 subst hn
 exact OwnZ.made w hB
theorem putN_le {L:Ch} {k:ByteArray} {v:Ver} {i:Nat} (hi:i<=L.length):putN L k i<=(L.put k v).length:=by
 rw [put_len]
 unfold putN
 cases L.has k with
 | true=>rw [if_neg (fun h=>by cases h.1),if_pos rfl]; exact hi
 | false=>rw [if_neg (show ¬ false=true by decide)]; split<;>omega
theorem put_low {L:Ch} {k:ByteArray} {v:Ver} {i:Nat} (h:i<L.pos k) (hi:i<L.length):(L.put k v).take (putN L k (i+1))=(L.put k v).take (putN L k i)++[(L.key i,L.chn i)]:=by
 have e1:putN L k (i+1)=i+1:=by unfold putN; rw [if_neg (by omega)]
 have e2:putN L k i=i:=by unfold putN; rw [if_neg (by omega)]
 rw [e1,e2]
 refine take_step ?_
 cases q:L.has k with
 | true=>rw [put_old q hi,if_neg (by omega)]
 | false=>exact (put_new q).1 i h
theorem put_high {L:Ch} {k:ByteArray} {v:Ver} {i:Nat} (h:L.pos k<i) (hi:i<L.length):(L.put k v).take (putN L k (i+1))=(L.put k v).take (putN L k i)++[(L.key i,L.chn i)]:=by
 cases q:L.has k with
 | true =>
  have e1:putN L k (i+1)=i+1:=by unfold putN; rw [if_neg (fun e=>by rw [q] at e; cases e.1)]
  have e2:putN L k i=i:=by unfold putN; rw [if_neg (fun e=>by rw [q] at e; cases e.1)]
  rw [e1,e2]
  exact take_step (by rw [put_old q hi,if_neg (by omega)])
 | false =>
  have e1:putN L k (i+1)=i+1+1:=by unfold putN; rw [if_pos ⟨q,by omega⟩]
  have e2:putN L k i=i+1:=by unfold putN; rw [if_pos ⟨q,h⟩]
  rw [e1,e2]
  exact take_step ((put_new q).2.2 i (by omega) hi)
theorem put_here {L:Ch} {k:ByteArray} {v:Ver} (q:L.has k=true) (hi:L.pos k<L.length):(L.put k v).take (putN L k (L.pos k+1))=(L.put k v).take (putN L k (L.pos k))++[(k,L.chn (L.pos k)++[v])]:=by
 have e1:putN L k (L.pos k+1)=L.pos k+1:=by unfold putN; rw [if_neg (fun e=>by rw [q] at e; cases e.1)]
 have e2:putN L k (L.pos k)=L.pos k:=by unfold putN; rw [if_neg (by omega)]
 rw [e1,e2]
 exact take_step (by rw [put_old q hi,if_pos rfl])
theorem put_in {L:Ch} {k:ByteArray} {v:Ver} (q:L.has k=false) (hi:L.pos k<L.length):(L.put k v).take (putN L k (L.pos k+1))=(L.put k v).take (putN L k (L.pos k))++[(k,[v])]++[(L.key (L.pos k),L.chn (L.pos k))]:=by
 have e1:putN L k (L.pos k+1)=L.pos k+1+1:=by unfold putN; rw [if_pos ⟨q,by omega⟩]
 have e2:putN L k (L.pos k)=L.pos k:=by unfold putN; rw [if_neg (by omega)]
 rw [e1,e2,take_step ((put_new q).2.2 _ (Nat.le_refl _) hi),take_step (put_new q).2.1]
theorem put_end {L:Ch} {k:ByteArray} {v:Ver}:(L.has k=false∧L.pos k=L.length->(L.put k v).take (putN L k L.length)++[(k,[v])]=L.put k v)∧(¬ (L.has k=false∧L.pos k=L.length)->(L.put k v).take (putN L k L.length)=L.put k v):=by
 have pl:=L.pos_le k
 constructor
 ·rintro ⟨q,e⟩
  have e2:putN L k L.length=L.pos k:=by unfold putN; rw [if_neg (by omega)]; exact e.symm
  rw [e2,<-take_step (put_new q).2.1]
  exact List.take_of_length_le (by rw [put_len,q,if_neg (show ¬ false=true by decide)]; omega)
 ·intro h
  refine List.take_of_length_le ?_
  rw [put_len]
  unfold putN
  cases q:L.has k with
  | true=>rw [if_pos rfl,if_neg (fun e=>by cases e.1)]; exact Nat.le_refl _
  | false =>
   rw [if_neg (show ¬ false=true by decide),if_pos ⟨rfl,by
    by_cases z:L.pos k=L.length
    ·exact absurd ⟨q,z⟩ h
    ·omega⟩]
   exact Nat.le_refl _
theorem SlVG.gn {A':Option Addr} {l:List Ver} (h:SlVG w G A' l):SlVG w (Gn G B u) A' l:=h.mono fun _ e=>.inl e
end
theorem rPut1 (p:Nat) (G:Nat->Prop) (A:Option Addr) (c:Nat) (L:Ch) (k:ByteArray) (v:Ver) (w:World) (h5:w.cell? ⟨p,5,none⟩=some (.slice A L.length c)) (f5:w.frozen? ⟨p,5,none⟩=false) (hs:SlO w G A L) (hg:GoodC L) (hG:∀ x,G x->x<w.heap.size) (hp:p<w.heap.size) (hL:L.length<=10000) :
  Calls Tryz.prog 131 #[.pointer (some ⟨p,0,none⟩),.string k,v.v] w fun e w'=>e=.returned (.tuple #[])∧∃ A' c' w1,w'=w1.setCell ⟨p,5,none⟩ (.slice A' (L.put k v).length c')∧Below w.heap.size w w1∧SlO w1 (fun x=>G x∨w.heap.size<=x) A' (L.put k v):=by
 obtain ⟨n,hn⟩:=nmq (L.length)
 obtain ⟨B,hB⟩:=nmq (w.heap.size)
 have LT:=qh (fun j (hj:j<L.pos k)=>Ch.below hj)
 have HI:=qh (Ch.has_iff L k)
 have NA:=qh (fun j (hj:L.pos k<j) (hl:j<L.length)=>Ch.above hg.rise hj hl)
 have NN:=qh (fun (q:L.has k=false) (h:L.pos k<L.length)=>Ch.not_has q h)
 have T1:=qh (fun i (h:i<L.pos k) (hi:i<L.length)=>put_low (v:=v) h hi)
 have T2:=qh (fun i (h:L.pos k<i) (hi:i<L.length)=>put_high (v:=v) h hi)
 have T3:=qh (fun (q:L.has k=true) (hi:L.pos k<L.length)=>put_here (v:=v) q hi)
 have T4:=qh (fun (q:L.has k=false) (hi:L.pos k<L.length)=>put_in (v:=v) q hi)
 have T5:=qh (put_end (L:=L) (k:=k) (v:=v))
 have PL:=qh (fun i (hi:i<=L.length)=>putN_le (k:=k) (v:=v) hi)
 have pl:=L.pos_le k
 have GL:=qh (fun i (hi:i<L.length)=>hg.get hi)
 obtain ⟨P,hP⟩:=nmq (L.pos k)
 obtain ⟨H,hH⟩:=nmq (L.has k)
 obtain ⟨M,hM⟩:=nmq (L.put k v)
 rw [<-hM]
 rw [<-hn] at h5 pl hL
 simp only [<-hP,<-hn,<-hH] at LT HI NA NN
 simp only [<-hM] at T1 T2 T3 T4 T5 PL
 simp only [<-hP,<-hn,<-hH] at T1 T2 T3 T4 T5
 simp only [<-hn] at PL
 have N0:=qh (show putN L k 0=0 by unfold putN; rw [if_neg (by omega)])
 have NB:=qh (fun i=>show putN L k i<=i+1 by unfold putN; split<;>omega)
 rw [<-hP] at pl
 rw [<-hB] at hG hp ⊢
 simp only [<-hn] at GL
 have HN:=qh hn
 have HS:=qh hs
 have HB:=qh hB
 have H5:=qh h5
 have F5:=qh f5
 have HG:=qh hG
 have R0:=RowAt.new w v.cs 120
 have b0:Below B w (w.alloc (.cells v.cs.toArray 120)):=by rw [hB]; exact (Below.refl _ _).alloc (Nat.le_refl _) _
 rw [<-hB] at R0
 have R1:=qh (R0.alloc (.cells #[] 176))
 have B1:=qh (b0.alloc (Nat.le_trans (by rw [hB]; exact Nat.le_refl _) b0.size) (.cells #[] 176))
 have O1:=qh (madeZ (B:=B+1) (n:=B+1) (w.alloc (.cells v.cs.toArray 120)) (by simp; omega) (by simp; omega))
 have R0:=qh R0
 obtain ⟨s,g,u⟩:=v
 obtain ⟨m,t,kk⟩:=u
 show Calls Tryz.prog 131 #[.pointer (some ⟨p,0,none⟩),.string k,.agg #[.int .i64 s,.bool g,.bool m,.string t,.int .u64 (kk:Int)]] w _
 clear hn hs hB h5 f5 hg hG hP hH hM b0
 go_enter Tryz.func131,Tryz.ntmps131
 go_wp2_with fail
 rw [<-HB.out]
 have HP:=qh hp
 have HG1:=qh (fun x (e:G x)=>show x<B+1 by have:=HG.out x e; omega)
 have BQ:=qh (show B<=w.heap.size by rw [HB.out]; exact Nat.le_refl _)
 go_loopw [6,7,8] (fun vo vd vi wr=>∃ (i:Nat) (u:Value) (zs:Zs),u=vo∧vd=.bool (decide (P<i))∧vi=.int .i64 i∧i<=n∧Hid (OwnZ wr (B+1) u zs)∧Hid (ZL wr (Gn G (B+1) u) zs (M.take (putN L k i)))∧Hid (Below B w wr)∧Hid (RowAt wr B (Ver.cs ⟨s,g,⟨m,t,kk⟩⟩) 120)) (fun _ _ vi _=>n+1-(intOf vi).toNat)
 case atStart =>
  refine ⟨0,_,[],rfl,rfl,rfl,Nat.zero_le _,O1,qh ?_,B1,R1⟩
  rw [N0.out,List.take_zero]
  exact ZL.nil _ _
 case round =>
  obtain ⟨i,u,zs,rfl,rfl,rfl,hi,HO,HZ,HW,HR⟩:=hrel
  have h5:=(HW.out.cell (p:=⟨p,5,none⟩) (show p<B from HP.out)).trans H5.out
  by_cases q:i<n
  ·obtain ⟨b,o,A',c',rfl,hb,_,k0,k1,sv⟩:=HS.out.at (j:=i) (by rw [<-HN.out]; exact q)
   have hbw:Below w.heap.size w wr:=by rw [<-HB.out]; exact HW.out
   have k0:=(hbw.cell (p:=⟨b,o+i * 2,none⟩) hb).trans k0
   have k1:=(hbw.cell (p:=⟨b,o+i * 2+1,none⟩) hb).trans k1
   have SV:=qh (sv.below hbw)
   have SW:=qh (fun W (h:Below B w W)=>sv.below (show Below w.heap.size w W by rw [<-HB.out]; exact h))
   have i0:(0:Int)<=(i:Int):=by omega
   have i1:(i:Int)<(n:Int):=by omega
   have LZ:=qh (show zs.length=putN L k i by
    rw [HZ.out.1,List.length_take]
    have:=PL.out i hi
    omega)
   obtain ⟨x,hx⟩:=nmq (L.key i)
   obtain ⟨lc,hlc⟩:=nmq (L.chn i)
   rw [<-hlc] at k1 SV
   simp only [<-hlc] at SW
   rw [<-hx] at k0
   obtain ⟨m',hm⟩:=nmq (lc.length)
   rw [<-hm] at k1
   have HM:=qh hm
   rcases Nat.lt_trichotomy i P with z | z | z
   ·have f1:Op.bytesLess x.toList k.toList=true:=by have:=LT.out i z; rw [<-hx] at this; exact this
    have f2:(x.toList == k.toList)=false:=str_ne (fun e=>by rw [e] at f1; have:=ltB_irr k; unfold ltB at this; rw [f1] at this; cases this)
    have NX:=qh (T1.out i z q)
    rw [<-hx,<-hlc] at NX
    have FL:=qh (show decide (P<i+1)=false from decide_eq_false (by omega))
    rw [show decide (P<i)=false from decide_eq_false (by omega)]
    clear hx hlc hm sv hb z
    have bw2:Below wr.heap.size wr ((wr.alloc (.cells #[.string x,.slice A' m' c'] 176)).alloc (.cells #[.string x,.slice A' m' c'] 176)):=((Below.refl wr.heap.size wr).alloc (Nat.le_refl _) _).alloc (by simp) _
    have BW2:=qh bw2
    have O2:=qh ((HO.out.alloc (.cells #[.string x,.slice A' m' c'] 176)).alloc (.cells #[.string x,.slice A' m' c'] 176))
    have SZ2:=qh (show B+1<=((wr.alloc (.cells #[.string x,.slice A' m' c'] 176)).alloc (.cells #[.string x,.slice A' m' c'] 176)).heap.size from Nat.le_trans (show B+1<=wr.heap.size from HR.out.lt) bw2.size)
    have CL2:=qh (zc_new (wr.alloc (.cells #[.string x,.slice A' m' c'] 176)) (x,.slice A' m' c') (wr.heap.size+1) 176 (by simp))
    have LE:=qh (show zs.length<=1000000 by have:=LZ.out; have:=NB.out i; omega)
    have SV2:=qh ((SV.out.below bw2).gn (B:=B+1) (u:=u))
    have R2:=qh ((HR.out.alloc (.cells #[.string x,.slice A' m' c'] 176)).alloc (.cells #[.string x,.slice A' m' c'] 176))
    clear bw2
    go_wp2_with (at_builtin; refine wp_putZ rfl (.tmp 54) (.tmp 56) rfl _ zs rfl O2.out SZ2.out (wr.heap.size+1) (x,.slice A' m' c') rfl rfl CL2.out LE.out ?_; intro v' w6 ho hgr h4; have O6:=qh ho; have Z6:=qh (put_step (c':=c') x HM.out HO.out HZ.out BW2.out SV2.out hgr h4 HG1.out); have W6:=qh (put_below HW.out HO.out BQ.out BW2.out hgr); have R6:=qh (row_kept R2.out HO.out hgr); clear ho hgr h4)
    go_roundw
    case rel=>exact ⟨i+1,v',_,rfl,by rw [FL.out],by go_num,by omega,O6,qh (by rw [NX.out]; exact Z6.out),W6,R6⟩
    case measure=>simp [intOf]; omega
   ·subst z
    rw [show decide (i<i)=false from decide_eq_false (by omega)]
    have FL:=qh (show decide (i<i+1)=true from decide_eq_true (by omega))
    have LE:=qh (show zs.length<=1000000 by have:=LZ.out; have:=NB.out i; omega)
    cases H with
    | false =>
     have f0:=NN.out rfl q
     rw [<-hx] at f0
     have f1:Op.bytesLess x.toList k.toList=false:=ltB_asym f0
     have f2:(x.toList == k.toList)=false:=str_ne (fun e=>by rw [e,ltB_irr] at f0; cases f0)
     have NX:=qh (T4.out rfl q)
     rw [<-hx,<-hlc] at NX
     clear hx hlc hm sv hb f0
     have bw3:Below wr.heap.size wr (((wr.alloc (.cells #[.string x,.slice A' m' c'] 176)).alloc (.cells #[.int .i64 s,.bool g,.bool m,.string t,.int .u64 (kk:Int)] 120)).alloc (.cells #[.string k,.slice (some ⟨wr.heap.size+1,0,none⟩) 1 1] 176)):=(((Below.refl wr.heap.size wr).alloc (Nat.le_refl _) _).alloc (by simp) _).alloc (by simp; omega) _
     have BW3:=qh bw3
     have O3:=qh (((HO.out.alloc (.cells #[.string x,.slice A' m' c'] 176)).alloc (.cells #[.int .i64 s,.bool g,.bool m,.string t,.int .u64 (kk:Int)] 120)).alloc (.cells #[.string k,.slice (some ⟨wr.heap.size+1,0,none⟩) 1 1] 176))
     have SZ3:=qh (show B+1<=(((wr.alloc (.cells #[.string x,.slice A' m' c'] 176)).alloc (.cells #[.int .i64 s,.bool g,.bool m,.string t,.int .u64 (kk:Int)] 120)).alloc (.cells #[.string k,.slice (some ⟨wr.heap.size+1,0,none⟩) 1 1] 176)).heap.size from Nat.le_trans (show B+1<=wr.heap.size from HR.out.lt) bw3.size)
     have CL3:=qh (zc_new ((wr.alloc (.cells #[.string x,.slice A' m' c'] 176)).alloc (.cells #[.int .i64 s,.bool g,.bool m,.string t,.int .u64 (kk:Int)] 120)) (k,.slice (some ⟨wr.heap.size+1,0,none⟩) 1 1) (wr.heap.size+2) 176 (by simp))
     have SV3:=qh (show SlVG (((wr.alloc (.cells #[.string x,.slice A' m' c'] 176)).alloc (.cells #[.int .i64 s,.bool g,.bool m,.string t,.int .u64 (kk:Int)] 120)).alloc (.cells #[.string k,.slice (some ⟨wr.heap.size+1,0,none⟩) 1 1] 176)) (Gn G (B+1) u) (some ⟨wr.heap.size+1,0,none⟩) [⟨s,g,⟨m,t,kk⟩⟩] from
      ⟨slV_row ((row_new (wr.alloc (.cells #[.string x,.slice A' m' c'] 176)) ⟨s,g,⟨m,t,kk⟩⟩ 120 (by simp)).alloc _),fun _=>⟨_,_,rfl,.inr ⟨by have:=HR.out.lt; omega,fun e=>by have:=(HO.out.lt _ e).2; omega⟩⟩⟩)
     have R3:=qh (((HR.out.alloc (.cells #[.string x,.slice A' m' c'] 176)).alloc (.cells #[.int .i64 s,.bool g,.bool m,.string t,.int .u64 (kk:Int)] 120)).alloc (.cells #[.string k,.slice (some ⟨wr.heap.size+1,0,none⟩) 1 1] 176))
     have X3:=qh (((RowAt.new wr (zc (x,.slice A' m' c')) 176).alloc (.cells #[.int .i64 s,.bool g,.bool m,.string t,.int .u64 (kk:Int)] 120)).alloc (.cells #[.string k,.slice (some ⟨wr.heap.size+1,0,none⟩) 1 1] 176))
     obtain ⟨d0,d1,d2,d3,d4⟩:=verG (HR.out.alloc (.cells #[.string x,.slice A' m' c'] 176))
     clear bw3
     go_wp2_with (first
      | (at_builtin; refine wp_putZ rfl (.tmp 47) (.tmp 52) rfl _ zs rfl O3.out SZ3.out (wr.heap.size+2) (k,.slice (some ⟨wr.heap.size+1,0,none⟩) 1 1) rfl rfl CL3.out LE.out ?_; intro v6 w6 ho hgr h4; have O6:=qh ho; have Z6:=qh (put_step (c':=1) k rfl HO.out HZ.out BW3.out SV3.out hgr h4 HG1.out); have W6:=qh (put_below HW.out HO.out BQ.out BW3.out hgr); have R6:=qh (row_kept R3.out HO.out hgr); have X6:=qh (one_kept X3.out HO.out (Nat.le_refl _) hgr); have x0:=X6.out.cell 0; have x1:=X6.out.cell 1; simp only [zc,List.getElem?_cons_succ,List.getElem?_cons_zero] at x0 x1; have bw7:Below w6.heap.size w6 (w6.alloc (.cells #[.string x,.slice A' m' c'] 176)):=(Below.refl _ _).alloc (Nat.le_refl _) _; have BW7:=qh bw7; have O7:=qh (O6.out.alloc (.cells #[.string x,.slice A' m' c'] 176)); have SZ7:=qh (show B+1<=(w6.alloc (.cells #[.string x,.slice A' m' c'] 176)).heap.size from Nat.le_trans (show B+1<=w6.heap.size from R6.out.lt) bw7.size); have CL7:=qh (zc_new w6 (x,.slice A' m' c') w6.heap.size 176 rfl); have LE7:=qh (show (zs++[(k,Value.slice (some ⟨wr.heap.size+1,0,none⟩) 1 1)]).length<=1000000 by have:=LZ.out; have:=NB.out i; simp; omega); have SV7:=qh (((SW.out w6 W6.out).below bw7).gn (B:=B+1) (u:=v6)); have R7:=qh (R6.out.alloc (.cells #[.string x,.slice A' m' c'] 176)); clear ho hgr h4 d0 d1 d2 d3 d4)
      | (at_builtin; refine wp_putZ rfl (.tmp 54) (.tmp 56) rfl _ _ rfl O7.out SZ7.out w6.heap.size (x,.slice A' m' c') rfl rfl CL7.out LE7.out ?_; intro v8 w8 ho hgr h4; have O8:=qh ho; have Z8:=qh (put_step (c':=c') x HM.out O6.out Z6.out BW7.out SV7.out hgr h4 HG1.out); have W8:=qh (put_below W6.out O6.out BQ.out BW7.out hgr); have R8:=qh (row_kept R7.out O6.out hgr); clear ho hgr h4))
     go_roundw
     case rel=>exact ⟨i+1,v8,_,rfl,by rw [FL.out],by go_num,by omega,O8,qh (by rw [NX.out]; exact Z8.out),W8,R8⟩
     case measure=>simp [intOf]; omega
    | true =>
     have ek:x=k:=by rw [hx]; exact (HI.out.1 rfl).2
     have f2:(x.toList == k.toList)=true:=str_eq ek
     have NX:=qh (show M.take (putN L k (i+1))=M.take (putN L k i)++[(x,lc++[⟨s,g,⟨m,t,kk⟩⟩])] by rw [T3.out rfl q,<-hlc,ek])
     have LC:=qh (show lc.length<=1000 by rw [hlc]; exact (GL.out i q).2.2.1)
     have bw1:Below wr.heap.size wr (wr.alloc (.cells #[.string x,.slice A' m' c'] 176)):=(Below.refl _ _).alloc (Nat.le_refl _) _
     have BW1:=qh bw1
     have RB:=qh (HR.out.alloc (.cells #[.string x,.slice A' m' c'] 176))
     have XB:=qh (RowAt.new wr (zc (x,.slice A' m' c')) 176)
     have SB:=qh (SV.out.1.below bw1)
     have BYD:=qh (show Below (wr.alloc (.cells #[.string x,.slice A' m' c'] 176)).heap.size (wr.alloc (.cells #[.string x,.slice A' m' c'] 176)) (wr.alloc (.cells #[.string x,.slice A' m' c'] 176)).drew from (Below.refl _ _).drew)
     clear hx hlc hm sv hb ek bw1
     go_wp2_with fail
     refine wp_region_held_drew (S:=(fun w'=>w'.cell? ⟨B,0,none⟩=some (.int .i64 s)∧w'.cell? ⟨B,1,none⟩=some (.bool g)∧w'.cell? ⟨B,2,none⟩=some (.bool m)∧w'.cell? ⟨B,3,none⟩=some (.string t)∧w'.cell? ⟨B,4,none⟩=some (.int .u64 (kk:Int)))) (by kernel_rfl) ((verG RB.out)) (fun gH=>?_)
     refine rgT 1 (v:=?v1) ?y1 gH ?_
     case y1=>(intro v hSw; go_simp<;>rfl)
     refine rgT 4 (v:=?v2) ?y2 gH ?_
     case y2=>(intro v hSw; go_simp<;>rfl)
     try simp only [putS]
     refine rgnThree 0 2 5 rfl rfl rfl (by kernel_rfl) (fun K hK=>?_) (fun K hK=>?_) (fun K hK=>?_)
     ·skip
      have BY1:=qh (BYD.out.alloc BYD.out.size (.cells #[] 120))
      go_simp
      refine hK.out _ _ (verG (RB.out.below BY1.out)) (fun gH=>?_)
      clear hK K
      try simp only [putS]
      have EE1:=qh (own_made (B:=(wr.alloc (.cells #[.string x,.slice A' m' c'] 176)).heap.size) (n:=wr.heap.size+1) (wr.alloc (.cells #[.string x,.slice A' m' c'] 176)).drew BYD.out.size (by simp))
      refine rgnTwo 2 5 rfl rfl (by kernel_rfl) (fun K hK=>?_) (fun K hK=>?_)
      ·skip
       have yx2:=(XB.out.below BY1.out).cell 1
       simp only [zc,List.getElem?_cons_succ,List.getElem?_cons_zero] at yx2
       go_simp
       refine hK.out _ _ (verG (RB.out.below BY1.out)) (fun gH=>?_)
       clear hK K yx2
       try simp only [putS]
       refine rgnTwo 3 5 rfl rfl (by kernel_rfl) (fun K hK=>?_) (fun K hK=>?_)
       ·skip
        refine step_appV rfl (.tmp 31) (.tmp 33) rfl (wr.alloc (.cells #[.string x,.slice A' m' c'] 176)).heap.size _ [] lc rfl EE1.out A' c' (by rw [<-HM.out]; rfl) (SB.out.below BY1.out) (by have:=LC.out; simp; omega) BY1.out.size ?_
        intro va3 wa3 ho hgr hb
        rw [List.nil_append] at ho
        have BY3:=qh (BY1.out.trans hb)
        have EE3:=qh ho
        clear ho hgr hb
        refine hK.out _ _ (verG (RB.out.below BY3.out)) (fun gH=>?_)
        clear hK K
        try simp only [putS]
        refine rgO 5 fun K hK=>?_
        have BY4:=qh (BY3.out.alloc BY3.out.size (.cells #[.int .i64 s,.bool g,.bool m,.string t,.int .u64 (kk:Int)] 120))
        go_simp
        refine hK.out _ _ (verG (RB.out.below BY4.out)) (fun gH=>?_)
        clear hK K
        try simp only [putS]
        have VN4:=qh (row_new (n:=wa3.heap.size) wa3 ⟨s,g,⟨m,t,kk⟩⟩ 120 rfl)
        have EE4:=qh (EE3.out.alloc (.cells #[.int .i64 s,.bool g,.bool m,.string t,.int .u64 (kk:Int)] 120))
        refine rgO 6 fun K hK=>?_
        refine step_appV rfl (.tmp 34) (.tmp 36) rfl (wr.alloc (.cells #[.string x,.slice A' m' c'] 176)).heap.size va3 lc [⟨s,g,⟨m,t,kk⟩⟩] rfl EE4.out _ 1 rfl (slV_row VN4.out) (by have:=LC.out; simp; omega) BY4.out.size ?_
        intro v9 w9 ho hgr hb
        have BY9:=qh (BY4.out.trans hb)
        obtain ⟨A9,c9,e9,sl9,g9⟩:=ho.sl
        have lt9:=ho.lt
        obtain ⟨N9,hN9⟩:=nmq ((lc++[(⟨s,g,⟨m,t,kk⟩⟩:Ver)]).length)
        rw [<-hN9] at e9
        subst e9
        obtain ⟨gb,rfl⟩:=g9 (by simp)
        have lt9:wr.heap.size+1<=gb:=by have:=(lt9 gb rfl).1; simp at this; omega
        have R9:=RB.out.below BY9.out
        have X9:=XB.out.below BY9.out
        have RF:=qh (R9.other (p:=⟨wr.heap.size,1,none⟩) (show wr.heap.size≠B by have:=HR.out.lt; omega) (.slice (some ⟨gb,0,none⟩) N9 c9))
        have XF:=qh (X9.set 1 (.slice (some ⟨gb,0,none⟩) N9 c9))
        have BF:=qh ((BW1.out.trans (BY9.out.mono BW1.out.size)).setCell (p:=⟨wr.heap.size,1,none⟩) (Nat.le_refl _) (.slice (some ⟨gb,0,none⟩) N9 c9))
        have SF:=qh (show SlVG (w9.setCell ⟨wr.heap.size,1,none⟩ (.slice (some ⟨gb,0,none⟩) N9 c9)) (Gn G (B+1) u) (some ⟨gb,0,none⟩) (lc++[⟨s,g,⟨m,t,kk⟩⟩]) from
         ⟨sl9.keep (Below.heap_setCell _ _ _ _ (show gb≠wr.heap.size by omega)) (by simp [World.setCell]),fun _=>⟨_,_,rfl,.inr ⟨by have:=HR.out.lt; omega,fun e=>by have:=(HO.out.lt _ e).2; omega⟩⟩⟩)
        have f9:=X9.frozen 1
        have y9:=X9.cell 1
        simp only [zc,List.getElem?_cons_succ,List.getElem?_cons_zero] at y9
        have HN9:=qh hN9
        clear ho hgr hb sl9 g9 hN9 X9
        refine hK.out _ _ (verG R9) (fun gH=>?_)
        clear hK K
        refine rgT 7 (v:=?v3) ?y3 gH ?_
        case y3=>(intro v hSw; go_simp<;>rfl)
        try simp only [putS]
        refine rgO 8 fun K hK=>?_
        go_simp
        refine hK.out _ _ ((verG RF.out)) (fun gH=>?_)
        clear hK K
        try simp only [putS]
        refine rgD ?_
        generalize w9.setCell ⟨wr.heap.size,1,none⟩ (.slice (some ⟨gb,0,none⟩) N9 c9)=wf at RF XF BF SF gH ⊢
        have x0:=XF.out.cell 0
        have x1:=XF.out.cell 1
        simp only [zc,List.set_cons_succ,List.set_cons_zero,List.getElem?_cons_succ,List.getElem?_cons_zero] at x0 x1
        have bw7:Below wr.heap.size wr (wf.alloc (.cells #[.string x,.slice (some ⟨gb,0,none⟩) N9 c9] 176)):=BF.out.alloc BF.out.size _
        have BW7:=qh bw7
        have O7:=qh ((HO.out.below BF.out).alloc (.cells #[.string x,.slice (some ⟨gb,0,none⟩) N9 c9] 176))
        have SZ7:=qh (show B+1<=(wf.alloc (.cells #[.string x,.slice (some ⟨gb,0,none⟩) N9 c9] 176)).heap.size from Nat.le_trans (show B+1<=wr.heap.size from HR.out.lt) bw7.size)
        have CL7:=qh (zc_new wf (x,.slice (some ⟨gb,0,none⟩) N9 c9) wf.heap.size 176 rfl)
        have SV7:=qh (SF.out.below ((Below.refl wf.heap.size wf).alloc (Nat.le_refl _) (.cells #[.string x,.slice (some ⟨gb,0,none⟩) N9 c9] 176)))
        have R7:=qh (RF.out.alloc (.cells #[.string x,.slice (some ⟨gb,0,none⟩) N9 c9] 176))
        clear bw7 R9 y9 f9 gH
        go_wp2_with (at_builtin; refine wp_putZ rfl (.tmp 54) (.tmp 56) rfl _ zs rfl O7.out SZ7.out wf.heap.size (x,.slice (some ⟨gb,0,none⟩) N9 c9) rfl rfl CL7.out LE.out ?_; intro v8 w8 ho hgr h4; have O8:=qh ho; have Z8:=qh (put_step (c':=c9) x HN9.out HO.out HZ.out BW7.out SV7.out hgr h4 HG1.out); have W8:=qh (put_below HW.out HO.out BQ.out BW7.out hgr); have R8:=qh (row_kept R7.out HO.out hgr); clear ho hgr h4)
        go_roundw
        case rel=>exact ⟨i+1,v8,_,rfl,by rw [FL.out],by go_num,by omega,O8,qh (by rw [NX.out]; exact Z8.out),W8,R8⟩
        case measure=>simp [intOf]; omega
       ·skip
        have BY6:=qh (BY1.out.alloc BY1.out.size (.cells #[.int .i64 s,.bool g,.bool m,.string t,.int .u64 (kk:Int)] 120))
        go_simp
        refine hK.out _ _ (verG (RB.out.below BY6.out)) (fun gH=>?_)
        clear hK K
        try simp only [putS]
        have VN6:=qh (row_new (n:=wr.heap.size+2) ((wr.alloc (.cells #[.string x,.slice A' m' c'] 176)).drew.alloc (.cells #[] 120)) ⟨s,g,⟨m,t,kk⟩⟩ 120 (by simp))
        have EE6:=qh (EE1.out.alloc (.cells #[.int .i64 s,.bool g,.bool m,.string t,.int .u64 (kk:Int)] 120))
        refine rgO 3 fun K hK=>?_
        refine step_appV rfl (.tmp 31) (.tmp 33) rfl (wr.alloc (.cells #[.string x,.slice A' m' c'] 176)).heap.size _ [] lc rfl EE6.out A' c' (by rw [<-HM.out]; rfl) (SB.out.below BY6.out) (by have:=LC.out; simp; omega) BY6.out.size ?_
        intro va7 wa7 ho hgr hb
        rw [List.nil_append] at ho
        have BY7:=qh (BY6.out.trans hb)
        have EE7:=qh ho
        have VN7:=qh (row_grown VN6.out hgr (by simp))
        clear ho hgr hb
        refine hK.out _ _ (verG (RB.out.below BY7.out)) (fun gH=>?_)
        clear hK K
        try simp only [putS]
        refine rgO 6 fun K hK=>?_
        refine step_appV rfl (.tmp 34) (.tmp 36) rfl (wr.alloc (.cells #[.string x,.slice A' m' c'] 176)).heap.size va7 lc [⟨s,g,⟨m,t,kk⟩⟩] rfl EE7.out _ 1 rfl (slV_row VN7.out) (by have:=LC.out; simp; omega) BY7.out.size ?_
        intro v9 w9 ho hgr hb
        have BY9:=qh (BY7.out.trans hb)
        obtain ⟨A9,c9,e9,sl9,g9⟩:=ho.sl
        have lt9:=ho.lt
        obtain ⟨N9,hN9⟩:=nmq ((lc++[(⟨s,g,⟨m,t,kk⟩⟩:Ver)]).length)
        rw [<-hN9] at e9
        subst e9
        obtain ⟨gb,rfl⟩:=g9 (by simp)
        have lt9:wr.heap.size+1<=gb:=by have:=(lt9 gb rfl).1; simp at this; omega
        have R9:=RB.out.below BY9.out
        have X9:=XB.out.below BY9.out
        have RF:=qh (R9.other (p:=⟨wr.heap.size,1,none⟩) (show wr.heap.size≠B by have:=HR.out.lt; omega) (.slice (some ⟨gb,0,none⟩) N9 c9))
        have XF:=qh (X9.set 1 (.slice (some ⟨gb,0,none⟩) N9 c9))
        have BF:=qh ((BW1.out.trans (BY9.out.mono BW1.out.size)).setCell (p:=⟨wr.heap.size,1,none⟩) (Nat.le_refl _) (.slice (some ⟨gb,0,none⟩) N9 c9))
        have SF:=qh (show SlVG (w9.setCell ⟨wr.heap.size,1,none⟩ (.slice (some ⟨gb,0,none⟩) N9 c9)) (Gn G (B+1) u) (some ⟨gb,0,none⟩) (lc++[⟨s,g,⟨m,t,kk⟩⟩]) from
         ⟨sl9.keep (Below.heap_setCell _ _ _ _ (show gb≠wr.heap.size by omega)) (by simp [World.setCell]),fun _=>⟨_,_,rfl,.inr ⟨by have:=HR.out.lt; omega,fun e=>by have:=(HO.out.lt _ e).2; omega⟩⟩⟩)
        have f9:=X9.frozen 1
        have y9:=X9.cell 1
        simp only [zc,List.getElem?_cons_succ,List.getElem?_cons_zero] at y9
        have HN9:=qh hN9
        clear ho hgr hb sl9 g9 hN9 X9
        refine hK.out _ _ (verG R9) (fun gH=>?_)
        clear hK K
        refine rgT 7 (v:=?v4) ?y4 gH ?_
        case y4=>(intro v hSw; go_simp<;>rfl)
        try simp only [putS]
        refine rgO 8 fun K hK=>?_
        go_simp
        refine hK.out _ _ ((verG RF.out)) (fun gH=>?_)
        clear hK K
        try simp only [putS]
        refine rgD ?_
        generalize w9.setCell ⟨wr.heap.size,1,none⟩ (.slice (some ⟨gb,0,none⟩) N9 c9)=wf at RF XF BF SF gH ⊢
        have x0:=XF.out.cell 0
        have x1:=XF.out.cell 1
        simp only [zc,List.set_cons_succ,List.set_cons_zero,List.getElem?_cons_succ,List.getElem?_cons_zero] at x0 x1
        have bw7:Below wr.heap.size wr (wf.alloc (.cells #[.string x,.slice (some ⟨gb,0,none⟩) N9 c9] 176)):=BF.out.alloc BF.out.size _
        have BW7:=qh bw7
        have O7:=qh ((HO.out.below BF.out).alloc (.cells #[.string x,.slice (some ⟨gb,0,none⟩) N9 c9] 176))
        have SZ7:=qh (show B+1<=(wf.alloc (.cells #[.string x,.slice (some ⟨gb,0,none⟩) N9 c9] 176)).heap.size from Nat.le_trans (show B+1<=wr.heap.size from HR.out.lt) bw7.size)
        have CL7:=qh (zc_new wf (x,.slice (some ⟨gb,0,none⟩) N9 c9) wf.heap.size 176 rfl)
        have SV7:=qh (SF.out.below ((Below.refl wf.heap.size wf).alloc (Nat.le_refl _) (.cells #[.string x,.slice (some ⟨gb,0,none⟩) N9 c9] 176)))
        have R7:=qh (RF.out.alloc (.cells #[.string x,.slice (some ⟨gb,0,none⟩) N9 c9] 176))
        clear bw7 R9 y9 f9 gH
        go_wp2_with (at_builtin; refine wp_putZ rfl (.tmp 54) (.tmp 56) rfl _ zs rfl O7.out SZ7.out wf.heap.size (x,.slice (some ⟨gb,0,none⟩) N9 c9) rfl rfl CL7.out LE.out ?_; intro v8 w8 ho hgr h4; have O8:=qh ho; have Z8:=qh (put_step (c':=c9) x HN9.out HO.out HZ.out BW7.out SV7.out hgr h4 HG1.out); have W8:=qh (put_below HW.out HO.out BQ.out BW7.out hgr); have R8:=qh (row_kept R7.out HO.out hgr); clear ho hgr h4)
        go_roundw
        case rel=>exact ⟨i+1,v8,_,rfl,by rw [FL.out],by go_num,by omega,O8,qh (by rw [NX.out]; exact Z8.out),W8,R8⟩
        case measure=>simp [intOf]; omega
      ·skip
       have BY9:=qh (BY1.out.alloc BY1.out.size (.cells #[.int .i64 s,.bool g,.bool m,.string t,.int .u64 (kk:Int)] 120))
       go_simp
       refine hK.out _ _ (verG (RB.out.below BY9.out)) (fun gH=>?_)
       clear hK K
       try simp only [putS]
       have VN9:=qh (row_new (n:=wr.heap.size+2) ((wr.alloc (.cells #[.string x,.slice A' m' c'] 176)).drew.alloc (.cells #[] 120)) ⟨s,g,⟨m,t,kk⟩⟩ 120 (by simp))
       have EE9:=qh (EE1.out.alloc (.cells #[.int .i64 s,.bool g,.bool m,.string t,.int .u64 (kk:Int)] 120))
       refine rgO 2 fun K hK=>?_
       have yx10:=(XB.out.below BY9.out).cell 1
       simp only [zc,List.getElem?_cons_succ,List.getElem?_cons_zero] at yx10
       go_simp
       refine hK.out _ _ (verG (RB.out.below BY9.out)) (fun gH=>?_)
       clear hK K yx10
       try simp only [putS]
       refine rgO 3 fun K hK=>?_
       refine step_appV rfl (.tmp 31) (.tmp 33) rfl (wr.alloc (.cells #[.string x,.slice A' m' c'] 176)).heap.size _ [] lc rfl EE9.out A' c' (by rw [<-HM.out]; rfl) (SB.out.below BY9.out) (by have:=LC.out; simp; omega) BY9.out.size ?_
       intro va11 wa11 ho hgr hb
       rw [List.nil_append] at ho
       have BY11:=qh (BY9.out.trans hb)
       have EE11:=qh ho
       have VN11:=qh (row_grown VN9.out hgr (by simp))
       clear ho hgr hb
       refine hK.out _ _ (verG (RB.out.below BY11.out)) (fun gH=>?_)
       clear hK K
       try simp only [putS]
       refine rgO 6 fun K hK=>?_
       refine step_appV rfl (.tmp 34) (.tmp 36) rfl (wr.alloc (.cells #[.string x,.slice A' m' c'] 176)).heap.size va11 lc [⟨s,g,⟨m,t,kk⟩⟩] rfl EE11.out _ 1 rfl (slV_row VN11.out) (by have:=LC.out; simp; omega) BY11.out.size ?_
       intro v9 w9 ho hgr hb
       have BY9:=qh (BY11.out.trans hb)
       obtain ⟨A9,c9,e9,sl9,g9⟩:=ho.sl
       have lt9:=ho.lt
       obtain ⟨N9,hN9⟩:=nmq ((lc++[(⟨s,g,⟨m,t,kk⟩⟩:Ver)]).length)
       rw [<-hN9] at e9
       subst e9
       obtain ⟨gb,rfl⟩:=g9 (by simp)
       have lt9:wr.heap.size+1<=gb:=by have:=(lt9 gb rfl).1; simp at this; omega
       have R9:=RB.out.below BY9.out
       have X9:=XB.out.below BY9.out
       have RF:=qh (R9.other (p:=⟨wr.heap.size,1,none⟩) (show wr.heap.size≠B by have:=HR.out.lt; omega) (.slice (some ⟨gb,0,none⟩) N9 c9))
       have XF:=qh (X9.set 1 (.slice (some ⟨gb,0,none⟩) N9 c9))
       have BF:=qh ((BW1.out.trans (BY9.out.mono BW1.out.size)).setCell (p:=⟨wr.heap.size,1,none⟩) (Nat.le_refl _) (.slice (some ⟨gb,0,none⟩) N9 c9))
       have SF:=qh (show SlVG (w9.setCell ⟨wr.heap.size,1,none⟩ (.slice (some ⟨gb,0,none⟩) N9 c9)) (Gn G (B+1) u) (some ⟨gb,0,none⟩) (lc++[⟨s,g,⟨m,t,kk⟩⟩]) from
        ⟨sl9.keep (Below.heap_setCell _ _ _ _ (show gb≠wr.heap.size by omega)) (by simp [World.setCell]),fun _=>⟨_,_,rfl,.inr ⟨by have:=HR.out.lt; omega,fun e=>by have:=(HO.out.lt _ e).2; omega⟩⟩⟩)
       have f9:=X9.frozen 1
       have y9:=X9.cell 1
       simp only [zc,List.getElem?_cons_succ,List.getElem?_cons_zero] at y9
       have HN9:=qh hN9
       clear ho hgr hb sl9 g9 hN9 X9
       refine hK.out _ _ (verG R9) (fun gH=>?_)
       clear hK K
       refine rgT 7 (v:=?v5) ?y5 gH ?_
       case y5=>(intro v hSw; go_simp<;>rfl)
       try simp only [putS]
       refine rgO 8 fun K hK=>?_
       go_simp
       refine hK.out _ _ ((verG RF.out)) (fun gH=>?_)
       clear hK K
       try simp only [putS]
       refine rgD ?_
       generalize w9.setCell ⟨wr.heap.size,1,none⟩ (.slice (some ⟨gb,0,none⟩) N9 c9)=wf at RF XF BF SF gH ⊢
       have x0:=XF.out.cell 0
       have x1:=XF.out.cell 1
       simp only [zc,List.set_cons_succ,List.set_cons_zero,List.getElem?_cons_succ,List.getElem?_cons_zero] at x0 x1
       have bw7:Below wr.heap.size wr (wf.alloc (.cells #[.string x,.slice (some ⟨gb,0,none⟩) N9 c9] 176)):=BF.out.alloc BF.out.size _
       have BW7:=qh bw7
       have O7:=qh ((HO.out.below BF.out).alloc (.cells #[.string x,.slice (some ⟨gb,0,none⟩) N9 c9] 176))
       have SZ7:=qh (show B+1<=(wf.alloc (.cells #[.string x,.slice (some ⟨gb,0,none⟩) N9 c9] 176)).heap.size from Nat.le_trans (show B+1<=wr.heap.size from HR.out.lt) bw7.size)
       have CL7:=qh (zc_new wf (x,.slice (some ⟨gb,0,none⟩) N9 c9) wf.heap.size 176 rfl)
       have SV7:=qh (SF.out.below ((Below.refl wf.heap.size wf).alloc (Nat.le_refl _) (.cells #[.string x,.slice (some ⟨gb,0,none⟩) N9 c9] 176)))
       have R7:=qh (RF.out.alloc (.cells #[.string x,.slice (some ⟨gb,0,none⟩) N9 c9] 176))
       clear bw7 R9 y9 f9 gH
       go_wp2_with (at_builtin; refine wp_putZ rfl (.tmp 54) (.tmp 56) rfl _ zs rfl O7.out SZ7.out wf.heap.size (x,.slice (some ⟨gb,0,none⟩) N9 c9) rfl rfl CL7.out LE.out ?_; intro v8 w8 ho hgr h4; have O8:=qh ho; have Z8:=qh (put_step (c':=c9) x HN9.out HO.out HZ.out BW7.out SV7.out hgr h4 HG1.out); have W8:=qh (put_below HW.out HO.out BQ.out BW7.out hgr); have R8:=qh (row_kept R7.out HO.out hgr); clear ho hgr h4)
       go_roundw
       case rel=>exact ⟨i+1,v8,_,rfl,by rw [FL.out],by go_num,by omega,O8,qh (by rw [NX.out]; exact Z8.out),W8,R8⟩
       case measure=>simp [intOf]; omega
     ·skip
      have yx13:=(XB.out.below BYD.out).cell 1
      simp only [zc,List.getElem?_cons_succ,List.getElem?_cons_zero] at yx13
      go_simp
      refine hK.out _ _ (verG (RB.out.below BYD.out)) (fun gH=>?_)
      clear hK K yx13
      try simp only [putS]
      refine rgnTwo 0 5 rfl rfl (by kernel_rfl) (fun K hK=>?_) (fun K hK=>?_)
      ·skip
       have BY14:=qh (BYD.out.alloc BYD.out.size (.cells #[] 120))
       go_simp
       refine hK.out _ _ (verG (RB.out.below BY14.out)) (fun gH=>?_)
       clear hK K
       try simp only [putS]
       have EE14:=qh (own_made (B:=(wr.alloc (.cells #[.string x,.slice A' m' c'] 176)).heap.size) (n:=wr.heap.size+1) (wr.alloc (.cells #[.string x,.slice A' m' c'] 176)).drew BYD.out.size (by simp))
       refine rgnTwo 3 5 rfl rfl (by kernel_rfl) (fun K hK=>?_) (fun K hK=>?_)
       ·skip
        refine step_appV rfl (.tmp 31) (.tmp 33) rfl (wr.alloc (.cells #[.string x,.slice A' m' c'] 176)).heap.size _ [] lc rfl EE14.out A' c' (by rw [<-HM.out]; rfl) (SB.out.below BY14.out) (by have:=LC.out; simp; omega) BY14.out.size ?_
        intro va15 wa15 ho hgr hb
        rw [List.nil_append] at ho
        have BY15:=qh (BY14.out.trans hb)
        have EE15:=qh ho
        clear ho hgr hb
        refine hK.out _ _ (verG (RB.out.below BY15.out)) (fun gH=>?_)
        clear hK K
        try simp only [putS]
        refine rgO 5 fun K hK=>?_
        have BY16:=qh (BY15.out.alloc BY15.out.size (.cells #[.int .i64 s,.bool g,.bool m,.string t,.int .u64 (kk:Int)] 120))
        go_simp
        refine hK.out _ _ (verG (RB.out.below BY16.out)) (fun gH=>?_)
        clear hK K
        try simp only [putS]
        have VN16:=qh (row_new (n:=wa15.heap.size) wa15 ⟨s,g,⟨m,t,kk⟩⟩ 120 rfl)
        have EE16:=qh (EE15.out.alloc (.cells #[.int .i64 s,.bool g,.bool m,.string t,.int .u64 (kk:Int)] 120))
        refine rgO 6 fun K hK=>?_
        refine step_appV rfl (.tmp 34) (.tmp 36) rfl (wr.alloc (.cells #[.string x,.slice A' m' c'] 176)).heap.size va15 lc [⟨s,g,⟨m,t,kk⟩⟩] rfl EE16.out _ 1 rfl (slV_row VN16.out) (by have:=LC.out; simp; omega) BY16.out.size ?_
        intro v9 w9 ho hgr hb
        have BY9:=qh (BY16.out.trans hb)
        obtain ⟨A9,c9,e9,sl9,g9⟩:=ho.sl
        have lt9:=ho.lt
        obtain ⟨N9,hN9⟩:=nmq ((lc++[(⟨s,g,⟨m,t,kk⟩⟩:Ver)]).length)
        rw [<-hN9] at e9
        subst e9
        obtain ⟨gb,rfl⟩:=g9 (by simp)
        have lt9:wr.heap.size+1<=gb:=by have:=(lt9 gb rfl).1; simp at this; omega
        have R9:=RB.out.below BY9.out
        have X9:=XB.out.below BY9.out
        have RF:=qh (R9.other (p:=⟨wr.heap.size,1,none⟩) (show wr.heap.size≠B by have:=HR.out.lt; omega) (.slice (some ⟨gb,0,none⟩) N9 c9))
        have XF:=qh (X9.set 1 (.slice (some ⟨gb,0,none⟩) N9 c9))
        have BF:=qh ((BW1.out.trans (BY9.out.mono BW1.out.size)).setCell (p:=⟨wr.heap.size,1,none⟩) (Nat.le_refl _) (.slice (some ⟨gb,0,none⟩) N9 c9))
        have SF:=qh (show SlVG (w9.setCell ⟨wr.heap.size,1,none⟩ (.slice (some ⟨gb,0,none⟩) N9 c9)) (Gn G (B+1) u) (some ⟨gb,0,none⟩) (lc++[⟨s,g,⟨m,t,kk⟩⟩]) from
         ⟨sl9.keep (Below.heap_setCell _ _ _ _ (show gb≠wr.heap.size by omega)) (by simp [World.setCell]),fun _=>⟨_,_,rfl,.inr ⟨by have:=HR.out.lt; omega,fun e=>by have:=(HO.out.lt _ e).2; omega⟩⟩⟩)
        have f9:=X9.frozen 1
        have y9:=X9.cell 1
        simp only [zc,List.getElem?_cons_succ,List.getElem?_cons_zero] at y9
        have HN9:=qh hN9
        clear ho hgr hb sl9 g9 hN9 X9
        refine hK.out _ _ (verG R9) (fun gH=>?_)
        clear hK K
        refine rgT 7 (v:=?v6) ?y6 gH ?_
        case y6=>(intro v hSw; go_simp<;>rfl)
        try simp only [putS]
        refine rgO 8 fun K hK=>?_
        go_simp
        refine hK.out _ _ ((verG RF.out)) (fun gH=>?_)
        clear hK K
        try simp only [putS]
        refine rgD ?_
        generalize w9.setCell ⟨wr.heap.size,1,none⟩ (.slice (some ⟨gb,0,none⟩) N9 c9)=wf at RF XF BF SF gH ⊢
        have x0:=XF.out.cell 0
        have x1:=XF.out.cell 1
        simp only [zc,List.set_cons_succ,List.set_cons_zero,List.getElem?_cons_succ,List.getElem?_cons_zero] at x0 x1
        have bw7:Below wr.heap.size wr (wf.alloc (.cells #[.string x,.slice (some ⟨gb,0,none⟩) N9 c9] 176)):=BF.out.alloc BF.out.size _
        have BW7:=qh bw7
        have O7:=qh ((HO.out.below BF.out).alloc (.cells #[.string x,.slice (some ⟨gb,0,none⟩) N9 c9] 176))
        have SZ7:=qh (show B+1<=(wf.alloc (.cells #[.string x,.slice (some ⟨gb,0,none⟩) N9 c9] 176)).heap.size from Nat.le_trans (show B+1<=wr.heap.size from HR.out.lt) bw7.size)
        have CL7:=qh (zc_new wf (x,.slice (some ⟨gb,0,none⟩) N9 c9) wf.heap.size 176 rfl)
        have SV7:=qh (SF.out.below ((Below.refl wf.heap.size wf).alloc (Nat.le_refl _) (.cells #[.string x,.slice (some ⟨gb,0,none⟩) N9 c9] 176)))
        have R7:=qh (RF.out.alloc (.cells #[.string x,.slice (some ⟨gb,0,none⟩) N9 c9] 176))
        clear bw7 R9 y9 f9 gH
        go_wp2_with (at_builtin; refine wp_putZ rfl (.tmp 54) (.tmp 56) rfl _ zs rfl O7.out SZ7.out wf.heap.size (x,.slice (some ⟨gb,0,none⟩) N9 c9) rfl rfl CL7.out LE.out ?_; intro v8 w8 ho hgr h4; have O8:=qh ho; have Z8:=qh (put_step (c':=c9) x HN9.out HO.out HZ.out BW7.out SV7.out hgr h4 HG1.out); have W8:=qh (put_below HW.out HO.out BQ.out BW7.out hgr); have R8:=qh (row_kept R7.out HO.out hgr); clear ho hgr h4)
        go_roundw
        case rel=>exact ⟨i+1,v8,_,rfl,by rw [FL.out],by go_num,by omega,O8,qh (by rw [NX.out]; exact Z8.out),W8,R8⟩
        case measure=>simp [intOf]; omega
       ·skip
        have BY18:=qh (BY14.out.alloc BY14.out.size (.cells #[.int .i64 s,.bool g,.bool m,.string t,.int .u64 (kk:Int)] 120))
        go_simp
        refine hK.out _ _ (verG (RB.out.below BY18.out)) (fun gH=>?_)
        clear hK K
        try simp only [putS]
        have VN18:=qh (row_new (n:=wr.heap.size+2) ((wr.alloc (.cells #[.string x,.slice A' m' c'] 176)).drew.alloc (.cells #[] 120)) ⟨s,g,⟨m,t,kk⟩⟩ 120 (by simp))
        have EE18:=qh (EE14.out.alloc (.cells #[.int .i64 s,.bool g,.bool m,.string t,.int .u64 (kk:Int)] 120))
        refine rgO 3 fun K hK=>?_
        refine step_appV rfl (.tmp 31) (.tmp 33) rfl (wr.alloc (.cells #[.string x,.slice A' m' c'] 176)).heap.size _ [] lc rfl EE18.out A' c' (by rw [<-HM.out]; rfl) (SB.out.below BY18.out) (by have:=LC.out; simp; omega) BY18.out.size ?_
        intro va19 wa19 ho hgr hb
        rw [List.nil_append] at ho
        have BY19:=qh (BY18.out.trans hb)
        have EE19:=qh ho
        have VN19:=qh (row_grown VN18.out hgr (by simp))
        clear ho hgr hb
        refine hK.out _ _ (verG (RB.out.below BY19.out)) (fun gH=>?_)
        clear hK K
        try simp only [putS]
        refine rgO 6 fun K hK=>?_
        refine step_appV rfl (.tmp 34) (.tmp 36) rfl (wr.alloc (.cells #[.string x,.slice A' m' c'] 176)).heap.size va19 lc [⟨s,g,⟨m,t,kk⟩⟩] rfl EE19.out _ 1 rfl (slV_row VN19.out) (by have:=LC.out; simp; omega) BY19.out.size ?_
        intro v9 w9 ho hgr hb
        have BY9:=qh (BY19.out.trans hb)
        obtain ⟨A9,c9,e9,sl9,g9⟩:=ho.sl
        have lt9:=ho.lt
        obtain ⟨N9,hN9⟩:=nmq ((lc++[(⟨s,g,⟨m,t,kk⟩⟩:Ver)]).length)
        rw [<-hN9] at e9
        subst e9
        obtain ⟨gb,rfl⟩:=g9 (by simp)
        have lt9:wr.heap.size+1<=gb:=by have:=(lt9 gb rfl).1; simp at this; omega
        have R9:=RB.out.below BY9.out
        have X9:=XB.out.below BY9.out
        have RF:=qh (R9.other (p:=⟨wr.heap.size,1,none⟩) (show wr.heap.size≠B by have:=HR.out.lt; omega) (.slice (some ⟨gb,0,none⟩) N9 c9))
        have XF:=qh (X9.set 1 (.slice (some ⟨gb,0,none⟩) N9 c9))
        have BF:=qh ((BW1.out.trans (BY9.out.mono BW1.out.size)).setCell (p:=⟨wr.heap.size,1,none⟩) (Nat.le_refl _) (.slice (some ⟨gb,0,none⟩) N9 c9))
        have SF:=qh (show SlVG (w9.setCell ⟨wr.heap.size,1,none⟩ (.slice (some ⟨gb,0,none⟩) N9 c9)) (Gn G (B+1) u) (some ⟨gb,0,none⟩) (lc++[⟨s,g,⟨m,t,kk⟩⟩]) from
         ⟨sl9.keep (Below.heap_setCell _ _ _ _ (show gb≠wr.heap.size by omega)) (by simp [World.setCell]),fun _=>⟨_,_,rfl,.inr ⟨by have:=HR.out.lt; omega,fun e=>by have:=(HO.out.lt _ e).2; omega⟩⟩⟩)
        have f9:=X9.frozen 1
        have y9:=X9.cell 1
        simp only [zc,List.getElem?_cons_succ,List.getElem?_cons_zero] at y9
        have HN9:=qh hN9
        clear ho hgr hb sl9 g9 hN9 X9
        refine hK.out _ _ (verG R9) (fun gH=>?_)
        clear hK K
        refine rgT 7 (v:=?v7) ?y7 gH ?_
        case y7=>(intro v hSw; go_simp<;>rfl)
        try simp only [putS]
        refine rgO 8 fun K hK=>?_
        go_simp
        refine hK.out _ _ ((verG RF.out)) (fun gH=>?_)
        clear hK K
        try simp only [putS]
        refine rgD ?_
        generalize w9.setCell ⟨wr.heap.size,1,none⟩ (.slice (some ⟨gb,0,none⟩) N9 c9)=wf at RF XF BF SF gH ⊢
        have x0:=XF.out.cell 0
        have x1:=XF.out.cell 1
        simp only [zc,List.set_cons_succ,List.set_cons_zero,List.getElem?_cons_succ,List.getElem?_cons_zero] at x0 x1
        have bw7:Below wr.heap.size wr (wf.alloc (.cells #[.string x,.slice (some ⟨gb,0,none⟩) N9 c9] 176)):=BF.out.alloc BF.out.size _
        have BW7:=qh bw7
        have O7:=qh ((HO.out.below BF.out).alloc (.cells #[.string x,.slice (some ⟨gb,0,none⟩) N9 c9] 176))
        have SZ7:=qh (show B+1<=(wf.alloc (.cells #[.string x,.slice (some ⟨gb,0,none⟩) N9 c9] 176)).heap.size from Nat.le_trans (show B+1<=wr.heap.size from HR.out.lt) bw7.size)
        have CL7:=qh (zc_new wf (x,.slice (some ⟨gb,0,none⟩) N9 c9) wf.heap.size 176 rfl)
        have SV7:=qh (SF.out.below ((Below.refl wf.heap.size wf).alloc (Nat.le_refl _) (.cells #[.string x,.slice (some ⟨gb,0,none⟩) N9 c9] 176)))
        have R7:=qh (RF.out.alloc (.cells #[.string x,.slice (some ⟨gb,0,none⟩) N9 c9] 176))
        clear bw7 R9 y9 f9 gH
        go_wp2_with (at_builtin; refine wp_putZ rfl (.tmp 54) (.tmp 56) rfl _ zs rfl O7.out SZ7.out wf.heap.size (x,.slice (some ⟨gb,0,none⟩) N9 c9) rfl rfl CL7.out LE.out ?_; intro v8 w8 ho hgr h4; have O8:=qh ho; have Z8:=qh (put_step (c':=c9) x HN9.out HO.out HZ.out BW7.out SV7.out hgr h4 HG1.out); have W8:=qh (put_below HW.out HO.out BQ.out BW7.out hgr); have R8:=qh (row_kept R7.out HO.out hgr); clear ho hgr h4)
        go_roundw
        case rel=>exact ⟨i+1,v8,_,rfl,by rw [FL.out],by go_num,by omega,O8,qh (by rw [NX.out]; exact Z8.out),W8,R8⟩
        case measure=>simp [intOf]; omega
      ·skip
       have BY21:=qh (BYD.out.alloc BYD.out.size (.cells #[.int .i64 s,.bool g,.bool m,.string t,.int .u64 (kk:Int)] 120))
       go_simp
       refine hK.out _ _ (verG (RB.out.below BY21.out)) (fun gH=>?_)
       clear hK K
       try simp only [putS]
       have VN21:=qh (row_new (n:=wr.heap.size+1) (wr.alloc (.cells #[.string x,.slice A' m' c'] 176)).drew ⟨s,g,⟨m,t,kk⟩⟩ 120 (by simp))
       refine rgO 0 fun K hK=>?_
       have BY22:=qh (BY21.out.alloc BY21.out.size (.cells #[] 120))
       go_simp
       refine hK.out _ _ (verG (RB.out.below BY22.out)) (fun gH=>?_)
       clear hK K
       try simp only [putS]
       have EE22:=qh (own_made (B:=(wr.alloc (.cells #[.string x,.slice A' m' c'] 176)).heap.size) (n:=wr.heap.size+2) ((wr.alloc (.cells #[.string x,.slice A' m' c'] 176)).drew.alloc (.cells #[.int .i64 s,.bool g,.bool m,.string t,.int .u64 (kk:Int)] 120)) BY21.out.size (by simp))
       have VN22:=qh (VN21.out.alloc (.cells #[] 120))
       refine rgO 3 fun K hK=>?_
       refine step_appV rfl (.tmp 31) (.tmp 33) rfl (wr.alloc (.cells #[.string x,.slice A' m' c'] 176)).heap.size _ [] lc rfl EE22.out A' c' (by rw [<-HM.out]; rfl) (SB.out.below BY22.out) (by have:=LC.out; simp; omega) BY22.out.size ?_
       intro va23 wa23 ho hgr hb
       rw [List.nil_append] at ho
       have BY23:=qh (BY22.out.trans hb)
       have EE23:=qh ho
       have VN23:=qh (row_grown VN22.out hgr (by simp))
       clear ho hgr hb
       refine hK.out _ _ (verG (RB.out.below BY23.out)) (fun gH=>?_)
       clear hK K
       try simp only [putS]
       refine rgO 6 fun K hK=>?_
       refine step_appV rfl (.tmp 34) (.tmp 36) rfl (wr.alloc (.cells #[.string x,.slice A' m' c'] 176)).heap.size va23 lc [⟨s,g,⟨m,t,kk⟩⟩] rfl EE23.out _ 1 rfl (slV_row VN23.out) (by have:=LC.out; simp; omega) BY23.out.size ?_
       intro v9 w9 ho hgr hb
       have BY9:=qh (BY23.out.trans hb)
       obtain ⟨A9,c9,e9,sl9,g9⟩:=ho.sl
       have lt9:=ho.lt
       obtain ⟨N9,hN9⟩:=nmq ((lc++[(⟨s,g,⟨m,t,kk⟩⟩:Ver)]).length)
       rw [<-hN9] at e9
       subst e9
       obtain ⟨gb,rfl⟩:=g9 (by simp)
       have lt9:wr.heap.size+1<=gb:=by have:=(lt9 gb rfl).1; simp at this; omega
       have R9:=RB.out.below BY9.out
       have X9:=XB.out.below BY9.out
       have RF:=qh (R9.other (p:=⟨wr.heap.size,1,none⟩) (show wr.heap.size≠B by have:=HR.out.lt; omega) (.slice (some ⟨gb,0,none⟩) N9 c9))
       have XF:=qh (X9.set 1 (.slice (some ⟨gb,0,none⟩) N9 c9))
       have BF:=qh ((BW1.out.trans (BY9.out.mono BW1.out.size)).setCell (p:=⟨wr.heap.size,1,none⟩) (Nat.le_refl _) (.slice (some ⟨gb,0,none⟩) N9 c9))
       have SF:=qh (show SlVG (w9.setCell ⟨wr.heap.size,1,none⟩ (.slice (some ⟨gb,0,none⟩) N9 c9)) (Gn G (B+1) u) (some ⟨gb,0,none⟩) (lc++[⟨s,g,⟨m,t,kk⟩⟩]) from
        ⟨sl9.keep (Below.heap_setCell _ _ _ _ (show gb≠wr.heap.size by omega)) (by simp [World.setCell]),fun _=>⟨_,_,rfl,.inr ⟨by have:=HR.out.lt; omega,fun e=>by have:=(HO.out.lt _ e).2; omega⟩⟩⟩)
       have f9:=X9.frozen 1
       have y9:=X9.cell 1
       simp only [zc,List.getElem?_cons_succ,List.getElem?_cons_zero] at y9
       have HN9:=qh hN9
       clear ho hgr hb sl9 g9 hN9 X9
       refine hK.out _ _ (verG R9) (fun gH=>?_)
       clear hK K
       refine rgT 7 (v:=?v8) ?y8 gH ?_
       case y8=>(intro v hSw; go_simp<;>rfl)
       try simp only [putS]
       refine rgO 8 fun K hK=>?_
       go_simp
       refine hK.out _ _ ((verG RF.out)) (fun gH=>?_)
       clear hK K
       try simp only [putS]
       refine rgD ?_
       generalize w9.setCell ⟨wr.heap.size,1,none⟩ (.slice (some ⟨gb,0,none⟩) N9 c9)=wf at RF XF BF SF gH ⊢
       have x0:=XF.out.cell 0
       have x1:=XF.out.cell 1
       simp only [zc,List.set_cons_succ,List.set_cons_zero,List.getElem?_cons_succ,List.getElem?_cons_zero] at x0 x1
       have bw7:Below wr.heap.size wr (wf.alloc (.cells #[.string x,.slice (some ⟨gb,0,none⟩) N9 c9] 176)):=BF.out.alloc BF.out.size _
       have BW7:=qh bw7
       have O7:=qh ((HO.out.below BF.out).alloc (.cells #[.string x,.slice (some ⟨gb,0,none⟩) N9 c9] 176))
       have SZ7:=qh (show B+1<=(wf.alloc (.cells #[.string x,.slice (some ⟨gb,0,none⟩) N9 c9] 176)).heap.size from Nat.le_trans (show B+1<=wr.heap.size from HR.out.lt) bw7.size)
       have CL7:=qh (zc_new wf (x,.slice (some ⟨gb,0,none⟩) N9 c9) wf.heap.size 176 rfl)
       have SV7:=qh (SF.out.below ((Below.refl wf.heap.size wf).alloc (Nat.le_refl _) (.cells #[.string x,.slice (some ⟨gb,0,none⟩) N9 c9] 176)))
       have R7:=qh (RF.out.alloc (.cells #[.string x,.slice (some ⟨gb,0,none⟩) N9 c9] 176))
       clear bw7 R9 y9 f9 gH
       go_wp2_with (at_builtin; refine wp_putZ rfl (.tmp 54) (.tmp 56) rfl _ zs rfl O7.out SZ7.out wf.heap.size (x,.slice (some ⟨gb,0,none⟩) N9 c9) rfl rfl CL7.out LE.out ?_; intro v8 w8 ho hgr h4; have O8:=qh ho; have Z8:=qh (put_step (c':=c9) x HN9.out HO.out HZ.out BW7.out SV7.out hgr h4 HG1.out); have W8:=qh (put_below HW.out HO.out BQ.out BW7.out hgr); have R8:=qh (row_kept R7.out HO.out hgr); clear ho hgr h4)
       go_roundw
       case rel=>exact ⟨i+1,v8,_,rfl,by rw [FL.out],by go_num,by omega,O8,qh (by rw [NX.out]; exact Z8.out),W8,R8⟩
       case measure=>simp [intOf]; omega
     ·skip
      have BY25:=qh (BYD.out.alloc BYD.out.size (.cells #[.int .i64 s,.bool g,.bool m,.string t,.int .u64 (kk:Int)] 120))
      go_simp
      refine hK.out _ _ (verG (RB.out.below BY25.out)) (fun gH=>?_)
      clear hK K
      try simp only [putS]
      have VN25:=qh (row_new (n:=wr.heap.size+1) (wr.alloc (.cells #[.string x,.slice A' m' c'] 176)).drew ⟨s,g,⟨m,t,kk⟩⟩ 120 (by simp))
      refine rgnTwo 0 2 rfl rfl (by kernel_rfl) (fun K hK=>?_) (fun K hK=>?_)
      ·skip
       have BY26:=qh (BY25.out.alloc BY25.out.size (.cells #[] 120))
       go_simp
       refine hK.out _ _ (verG (RB.out.below BY26.out)) (fun gH=>?_)
       clear hK K
       try simp only [putS]
       have EE26:=qh (own_made (B:=(wr.alloc (.cells #[.string x,.slice A' m' c'] 176)).heap.size) (n:=wr.heap.size+2) ((wr.alloc (.cells #[.string x,.slice A' m' c'] 176)).drew.alloc (.cells #[.int .i64 s,.bool g,.bool m,.string t,.int .u64 (kk:Int)] 120)) BY25.out.size (by simp))
       have VN26:=qh (VN25.out.alloc (.cells #[] 120))
       refine rgO 2 fun K hK=>?_
       have yx27:=(XB.out.below BY26.out).cell 1
       simp only [zc,List.getElem?_cons_succ,List.getElem?_cons_zero] at yx27
       go_simp
       refine hK.out _ _ (verG (RB.out.below BY26.out)) (fun gH=>?_)
       clear hK K yx27
       try simp only [putS]
       refine rgO 3 fun K hK=>?_
       refine step_appV rfl (.tmp 31) (.tmp 33) rfl (wr.alloc (.cells #[.string x,.slice A' m' c'] 176)).heap.size _ [] lc rfl EE26.out A' c' (by rw [<-HM.out]; rfl) (SB.out.below BY26.out) (by have:=LC.out; simp; omega) BY26.out.size ?_
       intro va28 wa28 ho hgr hb
       rw [List.nil_append] at ho
       have BY28:=qh (BY26.out.trans hb)
       have EE28:=qh ho
       have VN28:=qh (row_grown VN26.out hgr (by simp))
       clear ho hgr hb
       refine hK.out _ _ (verG (RB.out.below BY28.out)) (fun gH=>?_)
       clear hK K
       try simp only [putS]
       refine rgO 6 fun K hK=>?_
       refine step_appV rfl (.tmp 34) (.tmp 36) rfl (wr.alloc (.cells #[.string x,.slice A' m' c'] 176)).heap.size va28 lc [⟨s,g,⟨m,t,kk⟩⟩] rfl EE28.out _ 1 rfl (slV_row VN28.out) (by have:=LC.out; simp; omega) BY28.out.size ?_
       intro v9 w9 ho hgr hb
       have BY9:=qh (BY28.out.trans hb)
       obtain ⟨A9,c9,e9,sl9,g9⟩:=ho.sl
       have lt9:=ho.lt
       obtain ⟨N9,hN9⟩:=nmq ((lc++[(⟨s,g,⟨m,t,kk⟩⟩:Ver)]).length)
       rw [<-hN9] at e9
       subst e9
       obtain ⟨gb,rfl⟩:=g9 (by simp)
       have lt9:wr.heap.size+1<=gb:=by have:=(lt9 gb rfl).1; simp at this; omega
       have R9:=RB.out.below BY9.out
       have X9:=XB.out.below BY9.out
       have RF:=qh (R9.other (p:=⟨wr.heap.size,1,none⟩) (show wr.heap.size≠B by have:=HR.out.lt; omega) (.slice (some ⟨gb,0,none⟩) N9 c9))
       have XF:=qh (X9.set 1 (.slice (some ⟨gb,0,none⟩) N9 c9))
       have BF:=qh ((BW1.out.trans (BY9.out.mono BW1.out.size)).setCell (p:=⟨wr.heap.size,1,none⟩) (Nat.le_refl _) (.slice (some ⟨gb,0,none⟩) N9 c9))
       have SF:=qh (show SlVG (w9.setCell ⟨wr.heap.size,1,none⟩ (.slice (some ⟨gb,0,none⟩) N9 c9)) (Gn G (B+1) u) (some ⟨gb,0,none⟩) (lc++[⟨s,g,⟨m,t,kk⟩⟩]) from
        ⟨sl9.keep (Below.heap_setCell _ _ _ _ (show gb≠wr.heap.size by omega)) (by simp [World.setCell]),fun _=>⟨_,_,rfl,.inr ⟨by have:=HR.out.lt; omega,fun e=>by have:=(HO.out.lt _ e).2; omega⟩⟩⟩)
       have f9:=X9.frozen 1
       have y9:=X9.cell 1
       simp only [zc,List.getElem?_cons_succ,List.getElem?_cons_zero] at y9
       have HN9:=qh hN9
       clear ho hgr hb sl9 g9 hN9 X9
       refine hK.out _ _ (verG R9) (fun gH=>?_)
       clear hK K
       refine rgT 7 (v:=?v9) ?y9 gH ?_
       case y9=>(intro v hSw; go_simp<;>rfl)
       try simp only [putS]
       refine rgO 8 fun K hK=>?_
       go_simp
       refine hK.out _ _ ((verG RF.out)) (fun gH=>?_)
       clear hK K
       try simp only [putS]
       refine rgD ?_
       generalize w9.setCell ⟨wr.heap.size,1,none⟩ (.slice (some ⟨gb,0,none⟩) N9 c9)=wf at RF XF BF SF gH ⊢
       have x0:=XF.out.cell 0
       have x1:=XF.out.cell 1
       simp only [zc,List.set_cons_succ,List.set_cons_zero,List.getElem?_cons_succ,List.getElem?_cons_zero] at x0 x1
       have bw7:Below wr.heap.size wr (wf.alloc (.cells #[.string x,.slice (some ⟨gb,0,none⟩) N9 c9] 176)):=BF.out.alloc BF.out.size _
       have BW7:=qh bw7
       have O7:=qh ((HO.out.below BF.out).alloc (.cells #[.string x,.slice (some ⟨gb,0,none⟩) N9 c9] 176))
       have SZ7:=qh (show B+1<=(wf.alloc (.cells #[.string x,.slice (some ⟨gb,0,none⟩) N9 c9] 176)).heap.size from Nat.le_trans (show B+1<=wr.heap.size from HR.out.lt) bw7.size)
       have CL7:=qh (zc_new wf (x,.slice (some ⟨gb,0,none⟩) N9 c9) wf.heap.size 176 rfl)
       have SV7:=qh (SF.out.below ((Below.refl wf.heap.size wf).alloc (Nat.le_refl _) (.cells #[.string x,.slice (some ⟨gb,0,none⟩) N9 c9] 176)))
       have R7:=qh (RF.out.alloc (.cells #[.string x,.slice (some ⟨gb,0,none⟩) N9 c9] 176))
       clear bw7 R9 y9 f9 gH
       go_wp2_with (at_builtin; refine wp_putZ rfl (.tmp 54) (.tmp 56) rfl _ zs rfl O7.out SZ7.out wf.heap.size (x,.slice (some ⟨gb,0,none⟩) N9 c9) rfl rfl CL7.out LE.out ?_; intro v8 w8 ho hgr h4; have O8:=qh ho; have Z8:=qh (put_step (c':=c9) x HN9.out HO.out HZ.out BW7.out SV7.out hgr h4 HG1.out); have W8:=qh (put_below HW.out HO.out BQ.out BW7.out hgr); have R8:=qh (row_kept R7.out HO.out hgr); clear ho hgr h4)
       go_roundw
       case rel=>exact ⟨i+1,v8,_,rfl,by rw [FL.out],by go_num,by omega,O8,qh (by rw [NX.out]; exact Z8.out),W8,R8⟩
       case measure=>simp [intOf]; omega
      ·skip
       have yx30:=(XB.out.below BY25.out).cell 1
       simp only [zc,List.getElem?_cons_succ,List.getElem?_cons_zero] at yx30
       go_simp
       refine hK.out _ _ (verG (RB.out.below BY25.out)) (fun gH=>?_)
       clear hK K yx30
       try simp only [putS]
       refine rgO 0 fun K hK=>?_
       have BY31:=qh (BY25.out.alloc BY25.out.size (.cells #[] 120))
       go_simp
       refine hK.out _ _ (verG (RB.out.below BY31.out)) (fun gH=>?_)
       clear hK K
       try simp only [putS]
       have EE31:=qh (own_made (B:=(wr.alloc (.cells #[.string x,.slice A' m' c'] 176)).heap.size) (n:=wr.heap.size+2) ((wr.alloc (.cells #[.string x,.slice A' m' c'] 176)).drew.alloc (.cells #[.int .i64 s,.bool g,.bool m,.string t,.int .u64 (kk:Int)] 120)) BY25.out.size (by simp))
       have VN31:=qh (VN25.out.alloc (.cells #[] 120))
       refine rgO 3 fun K hK=>?_
       refine step_appV rfl (.tmp 31) (.tmp 33) rfl (wr.alloc (.cells #[.string x,.slice A' m' c'] 176)).heap.size _ [] lc rfl EE31.out A' c' (by rw [<-HM.out]; rfl) (SB.out.below BY31.out) (by have:=LC.out; simp; omega) BY31.out.size ?_
       intro va32 wa32 ho hgr hb
       rw [List.nil_append] at ho
       have BY32:=qh (BY31.out.trans hb)
       have EE32:=qh ho
       have VN32:=qh (row_grown VN31.out hgr (by simp))
       clear ho hgr hb
       refine hK.out _ _ (verG (RB.out.below BY32.out)) (fun gH=>?_)
       clear hK K
       try simp only [putS]
       refine rgO 6 fun K hK=>?_
       refine step_appV rfl (.tmp 34) (.tmp 36) rfl (wr.alloc (.cells #[.string x,.slice A' m' c'] 176)).heap.size va32 lc [⟨s,g,⟨m,t,kk⟩⟩] rfl EE32.out _ 1 rfl (slV_row VN32.out) (by have:=LC.out; simp; omega) BY32.out.size ?_
       intro v9 w9 ho hgr hb
       have BY9:=qh (BY32.out.trans hb)
       obtain ⟨A9,c9,e9,sl9,g9⟩:=ho.sl
       have lt9:=ho.lt
       obtain ⟨N9,hN9⟩:=nmq ((lc++[(⟨s,g,⟨m,t,kk⟩⟩:Ver)]).length)
       rw [<-hN9] at e9
       subst e9
       obtain ⟨gb,rfl⟩:=g9 (by simp)
       have lt9:wr.heap.size+1<=gb:=by have:=(lt9 gb rfl).1; simp at this; omega
       have R9:=RB.out.below BY9.out
       have X9:=XB.out.below BY9.out
       have RF:=qh (R9.other (p:=⟨wr.heap.size,1,none⟩) (show wr.heap.size≠B by have:=HR.out.lt; omega) (.slice (some ⟨gb,0,none⟩) N9 c9))
       have XF:=qh (X9.set 1 (.slice (some ⟨gb,0,none⟩) N9 c9))
       have BF:=qh ((BW1.out.trans (BY9.out.mono BW1.out.size)).setCell (p:=⟨wr.heap.size,1,none⟩) (Nat.le_refl _) (.slice (some ⟨gb,0,none⟩) N9 c9))
       have SF:=qh (show SlVG (w9.setCell ⟨wr.heap.size,1,none⟩ (.slice (some ⟨gb,0,none⟩) N9 c9)) (Gn G (B+1) u) (some ⟨gb,0,none⟩) (lc++[⟨s,g,⟨m,t,kk⟩⟩]) from
        ⟨sl9.keep (Below.heap_setCell _ _ _ _ (show gb≠wr.heap.size by omega)) (by simp [World.setCell]),fun _=>⟨_,_,rfl,.inr ⟨by have:=HR.out.lt; omega,fun e=>by have:=(HO.out.lt _ e).2; omega⟩⟩⟩)
       have f9:=X9.frozen 1
       have y9:=X9.cell 1
       simp only [zc,List.getElem?_cons_succ,List.getElem?_cons_zero] at y9
       have HN9:=qh hN9
       clear ho hgr hb sl9 g9 hN9 X9
       refine hK.out _ _ (verG R9) (fun gH=>?_)
       clear hK K
       refine rgT 7 (v:=?v10) ?y10 gH ?_
       case y10=>(intro v hSw; go_simp<;>rfl)
       try simp only [putS]
       refine rgO 8 fun K hK=>?_
       go_simp
       refine hK.out _ _ ((verG RF.out)) (fun gH=>?_)
       clear hK K
       try simp only [putS]
       refine rgD ?_
       generalize w9.setCell ⟨wr.heap.size,1,none⟩ (.slice (some ⟨gb,0,none⟩) N9 c9)=wf at RF XF BF SF gH ⊢
       have x0:=XF.out.cell 0
       have x1:=XF.out.cell 1
       simp only [zc,List.set_cons_succ,List.set_cons_zero,List.getElem?_cons_succ,List.getElem?_cons_zero] at x0 x1
       have bw7:Below wr.heap.size wr (wf.alloc (.cells #[.string x,.slice (some ⟨gb,0,none⟩) N9 c9] 176)):=BF.out.alloc BF.out.size _
       have BW7:=qh bw7
       have O7:=qh ((HO.out.below BF.out).alloc (.cells #[.string x,.slice (some ⟨gb,0,none⟩) N9 c9] 176))
       have SZ7:=qh (show B+1<=(wf.alloc (.cells #[.string x,.slice (some ⟨gb,0,none⟩) N9 c9] 176)).heap.size from Nat.le_trans (show B+1<=wr.heap.size from HR.out.lt) bw7.size)
       have CL7:=qh (zc_new wf (x,.slice (some ⟨gb,0,none⟩) N9 c9) wf.heap.size 176 rfl)
       have SV7:=qh (SF.out.below ((Below.refl wf.heap.size wf).alloc (Nat.le_refl _) (.cells #[.string x,.slice (some ⟨gb,0,none⟩) N9 c9] 176)))
       have R7:=qh (RF.out.alloc (.cells #[.string x,.slice (some ⟨gb,0,none⟩) N9 c9] 176))
       clear bw7 R9 y9 f9 gH
       go_wp2_with (at_builtin; refine wp_putZ rfl (.tmp 54) (.tmp 56) rfl _ zs rfl O7.out SZ7.out wf.heap.size (x,.slice (some ⟨gb,0,none⟩) N9 c9) rfl rfl CL7.out LE.out ?_; intro v8 w8 ho hgr h4; have O8:=qh ho; have Z8:=qh (put_step (c':=c9) x HN9.out HO.out HZ.out BW7.out SV7.out hgr h4 HG1.out); have W8:=qh (put_below HW.out HO.out BQ.out BW7.out hgr); have R8:=qh (row_kept R7.out HO.out hgr); clear ho hgr h4)
       go_roundw
       case rel=>exact ⟨i+1,v8,_,rfl,by rw [FL.out],by go_num,by omega,O8,qh (by rw [NX.out]; exact Z8.out),W8,R8⟩
       case measure=>simp [intOf]; omega
   ·have f0:=NA.out i z q
    rw [<-hx] at f0
    have f1:Op.bytesLess x.toList k.toList=false:=ltB_asym f0
    have f2:(x.toList == k.toList)=false:=str_ne (fun e=>by rw [e,ltB_irr] at f0; cases f0)
    have NX:=qh (T2.out i z q)
    rw [<-hx,<-hlc] at NX
    have FL:=qh (show decide (P<i+1)=true from decide_eq_true (by omega))
    rw [show decide (P<i)=true from decide_eq_true (by omega)]
    clear hx hlc hm sv hb z f0
    have bw2:Below wr.heap.size wr ((wr.alloc (.cells #[.string x,.slice A' m' c'] 176)).alloc (.cells #[.string x,.slice A' m' c'] 176)):=((Below.refl wr.heap.size wr).alloc (Nat.le_refl _) _).alloc (by simp) _
    have BW2:=qh bw2
    have O2:=qh ((HO.out.alloc (.cells #[.string x,.slice A' m' c'] 176)).alloc (.cells #[.string x,.slice A' m' c'] 176))
    have SZ2:=qh (show B+1<=((wr.alloc (.cells #[.string x,.slice A' m' c'] 176)).alloc (.cells #[.string x,.slice A' m' c'] 176)).heap.size from Nat.le_trans (show B+1<=wr.heap.size from HR.out.lt) bw2.size)
    have CL2:=qh (zc_new (wr.alloc (.cells #[.string x,.slice A' m' c'] 176)) (x,.slice A' m' c') (wr.heap.size+1) 176 (by simp))
    have LE:=qh (show zs.length<=1000000 by have:=LZ.out; have:=NB.out i; omega)
    have SV2:=qh ((SV.out.below bw2).gn (B:=B+1) (u:=u))
    have R2:=qh ((HR.out.alloc (.cells #[.string x,.slice A' m' c'] 176)).alloc (.cells #[.string x,.slice A' m' c'] 176))
    clear bw2
    go_wp2_with (at_builtin; refine wp_putZ rfl (.tmp 54) (.tmp 56) rfl _ zs rfl O2.out SZ2.out (wr.heap.size+1) (x,.slice A' m' c') rfl rfl CL2.out LE.out ?_; intro v' w6 ho hgr h4; have O6:=qh ho; have Z6:=qh (put_step (c':=c') x HM.out HO.out HZ.out BW2.out SV2.out hgr h4 HG1.out); have W6:=qh (put_below HW.out HO.out BQ.out BW2.out hgr); have R6:=qh (row_kept R2.out HO.out hgr); clear ho hgr h4)
    go_roundw
    case rel=>exact ⟨i+1,v',_,rfl,by rw [FL.out],by go_num,by omega,O6,qh (by rw [NX.out]; exact Z6.out),W6,R6⟩
    case measure=>simp [intOf]; omega
  ·obtain rfl:i=n:=by omega
   have GM:=qh (fun (v:Value) x (e:Gn G (B+1) v x)=>show G x∨B<=x by
    rcases e with e | e
    ·exact .inl e
    ·exact .inr (by omega))
   have FZ:=qh (fun W (h:Below B w W)=>show W.frozen? ⟨p,5,none⟩=false by
    rw [World.frozen?_of_block (a:=⟨p,5,none⟩) (h.block p HP.out)]; exact F5.out)
   have C5:=qh (fun W (h:Below B w W)=>show W.cell? ⟨p,5,none⟩=some (.slice A i c) from (h.cell (p:=⟨p,5,none⟩) (show p<B from HP.out)).trans H5.out)
   by_cases e:H=false∧P=i
   ·obtain ⟨e1,e2⟩:=e
    rw [show decide (P<i)=false from decide_eq_false (by omega)]
    have MX:=qh (T5.out.1 ⟨e1,e2⟩)
    have LE:=qh (show zs.length<=1000000 by
     have:=HZ.out.1
     rw [List.length_take] at this
     have:=NB.out i
     omega)
    have bw3:Below wr.heap.size wr ((wr.alloc (.cells #[.int .i64 s,.bool g,.bool m,.string t,.int .u64 (kk:Int)] 120)).alloc (.cells #[.string k,.slice (some ⟨wr.heap.size,0,none⟩) 1 1] 176)):=((Below.refl wr.heap.size wr).alloc (Nat.le_refl _) _).alloc (by simp) _
    have BW3:=qh bw3
    have O3:=qh ((HO.out.alloc (.cells #[.int .i64 s,.bool g,.bool m,.string t,.int .u64 (kk:Int)] 120)).alloc (.cells #[.string k,.slice (some ⟨wr.heap.size,0,none⟩) 1 1] 176))
    have SZ3:=qh (show B+1<=((wr.alloc (.cells #[.int .i64 s,.bool g,.bool m,.string t,.int .u64 (kk:Int)] 120)).alloc (.cells #[.string k,.slice (some ⟨wr.heap.size,0,none⟩) 1 1] 176)).heap.size from Nat.le_trans (show B+1<=wr.heap.size from HR.out.lt) bw3.size)
    have CL3:=qh (zc_new (wr.alloc (.cells #[.int .i64 s,.bool g,.bool m,.string t,.int .u64 (kk:Int)] 120)) (k,.slice (some ⟨wr.heap.size,0,none⟩) 1 1) (wr.heap.size+1) 176 (by simp))
    have SV3:=qh (show SlVG ((wr.alloc (.cells #[.int .i64 s,.bool g,.bool m,.string t,.int .u64 (kk:Int)] 120)).alloc (.cells #[.string k,.slice (some ⟨wr.heap.size,0,none⟩) 1 1] 176)) (Gn G (B+1) u) (some ⟨wr.heap.size,0,none⟩) [⟨s,g,⟨m,t,kk⟩⟩] from
     ⟨slV_row ((row_new wr ⟨s,g,⟨m,t,kk⟩⟩ 120 rfl).alloc _),fun _=>⟨_,_,rfl,.inr ⟨HR.out.lt,fun e=>by have:=(HO.out.lt _ e).2; omega⟩⟩⟩)
    obtain ⟨d0,d1,d2,d3,d4⟩:=verG HR.out
    clear bw3 e1 e2
    go_wp2_with (at_builtin; refine wp_putZ rfl (.tmp 60) (.tmp 65) rfl _ zs rfl O3.out SZ3.out (wr.heap.size+1) (k,.slice (some ⟨wr.heap.size,0,none⟩) 1 1) rfl rfl CL3.out LE.out ?_; intro v6 w6 ho hgr h4; have z6:=put_step (c':=1) k rfl HO.out HZ.out BW3.out SV3.out hgr h4 HG1.out; rw [MX.out] at z6; have W6:=qh (put_below HW.out HO.out BQ.out BW3.out hgr); obtain ⟨A6,c6,e6,so⟩:=ho.sl (z6.mono (GM.out v6)) (fun k e=>.inr (by omega)); obtain ⟨N6,hN6⟩:=nmq (M.length); rw [<-hN6] at e6; subst e6; have SO:=qh so; have HN6:=qh hN6; have c5:=C5.out w6 W6.out; have z5:=FZ.out w6 W6.out; clear ho hgr h4 so z6 hN6 d0 d1 d2 d3 d4)
    refine bodyPost_end (results_none rfl _ _ _) rfl ?_
    exact ⟨rfl,A6,c6,w6,by rw [<-HN6.out],W6.out,SO.out⟩
   ·have e3:P<i:=by
     rcases Nat.lt_or_ge P i with q | q
     ·exact q
     ·exfalso
      have e4:P=i:=by omega
      cases H with
      | false=>exact e ⟨rfl,e4⟩
      | true=>have:=(HI.out.1 rfl).1; omega
    rw [show decide (P<i)=true from decide_eq_true e3]
    have z6:=HZ.out
    rw [T5.out.2 e] at z6
    obtain ⟨A6,c6,e6,so⟩:=HO.out.sl (z6.mono (GM.out u)) (fun k e=>.inr (by omega))
    obtain ⟨N6,hN6⟩:=nmq (M.length)
    rw [<-hN6] at e6
    subst e6
    have SO:=qh so
    have HN6:=qh hN6
    have z5:=FZ.out wr HW.out
    clear z6 so hN6 e e3
    go_wp2_with fail
    refine bodyPost_end (results_none rfl _ _ _) rfl ?_
    exact ⟨rfl,A6,c6,wr,by rw [<-HN6.out],HW.out,SO.out⟩

end Go.Proofs.YtomjlopcifafpaaGreat
