/- Proved parts: H2d H2e H2f H2g H2h H2i H2j H2k H2y. Conditions: each theorem's own. -/
import Derived.Test.YtoljhoabbaigdaaGreatM28
import Derived.Deep.RegionHeldLaw
import Derived.Maps.AppendAt
import Derived.Test.YtoljhoabbaigdaaGreatM20
import Derived.Test.YtoljhoabbaigdaaGreatM26
import Derived.KernelRfl
import Derived.Test.YtoljhoabbaigdaaGreatM6
import Derived.Test.YtoljhoabbaigdaaGreatM24
import Derived.Test.YtoljhoabbaigdaaGreatM16
import Derived.Test.YtoljhoabbaigdaaGreatM17
import Derived.Lib.SmallJoins
import Derived.Test.YtoljhoabbaigdaaGreatQ1
import Derived.Test.YtoljhoabbaigdaaGreatQ2
set_option maxRecDepth 100000
set_option maxHeartbeats 8000000
namespace Go.Proofs.YtoljhoabbaigdaaGreat
open Go.RowKit
attribute [local go_sem] Oper.semAt_some

theorem step_putSr {ops:Array Oper} {o:Oper} {a:Act} {w:World} {K:Act->World->Prop} {Q:Exit->Act->World->Prop} {E:Prop}
  (hg:o.guard=none) (s x:Operand) (hop:o.op=.call { callee:=.builtin .append,args:=#[s,x],argTypes:=#[98,98] })
  (B:Nat) (v:Value) (l:List Src) (hs:a.eval s=v) (hown:OwnSr w B v l) (g:Nat) (y:Src) (hx:a.eval x=.slice (some ⟨g,0,none⟩) 1 1) (hc:∀ i,i<3->w.cell? ⟨g,i,none⟩=y.cs[i]?)
  (hl:l.length<=1000000) (hB:B<=w.heap.size)
  (hK:∀ v' w',OwnSr w' B v' (l++[y])->w.grownBy w' v.ownBlock->(v'.ownBlock=v.ownBlock∨v'.ownBlock=some w.heap.size)->K (a.put o.dst v') w') :
  if Region.wanted o (yielded ops a.tmps)=true then Oper.wp Tryz.prog o a w K Q else E:=by
 have hw:Region.wanted o (yielded ops a.tmps)=true:=by simp [Region.wanted,hg]
 rw [if_pos hw]
 obtain ⟨i0,hi,hz0,hz1,hz2⟩:=info_parts infoSrc
 obtain ⟨v',w',hr,h2,h3,_,h5⟩:=run_append_own_at (P:=Tryz.prog) w B 98 o.type 107 i0 _ 3 24 Tryz.underlying98 hi hz0 hz1 hz2 rfl (by decide) v l.length _ hown ⟨g,0,none⟩ 1 1 y.cs rfl
  (fun j u hj=>by
   have hj3:j<3:=(List.getElem?_eq_some_iff.1 hj).1
   rw [show (⟨g,0,none⟩:Addr).add j=⟨g,j,none⟩ by simp [Addr.add]; omega,hc j hj3,hj])
  (fun u hu=>by
   unfold Src.cs at hu
   simp at hu
   rcases hu with rfl | rfl | rfl<;>rfl) (by unfold maxLen; omega) (by omega) hB
 unfold Oper.wp execOp
 simp only [hop,resolve,invoke,builtin,Sem.run_bind,Sem.run_pure,Result.andThen_ok,List.map_toArray,List.map_cons,List.map_nil,hs,hx,hr]
 refine hK _ _ ?_ h3 h5
 have e:scs l++y.cs=scs (l++[y]):=by unfold scs; simp
 rw [e] at h2
 unfold OwnSr
 rw [List.length_append]
 exact h2
theorem OwnSr.chg {w w':World} {B:Nat} {v:Value} {l:List Src} {F:Nat->Prop} (h:OwnSr w B v l) (hc:Chg F w w') (hn:∀ k,B<=k->¬ F k):OwnSr w' B v l:=by
 rcases h with ⟨h1,h2⟩
 refine ⟨h1,?_⟩
 rcases h2 with ⟨rfl,h0⟩ | ⟨g,cap,cur,rfl,hB,hg,r⟩
 ·exact .inl ⟨rfl,h0⟩
 ·refine .inr ⟨g,cap,cur,rfl,hB,?_,r⟩
  have hl:g<w.heap.size:=(Array.getElem?_eq_some_iff.1 hg).1
  rw [hc.block g hl (hn g hB)]; exact hg
structure SoOk (R:World->Prop) (s:So):Prop where
 rise:(roomO s.L s.sq).Rise
 seek:Finds2 R ⟨89,#[.pointer s.rp],#[]⟩ s.sq fun k=>aftV s.L k false s.sq
 after:Finds2 R ⟨90,#[.pointer s.rp],#[]⟩ s.sq fun k=>aftV s.L k true s.sq
def srcPl (S:Wl) (place:Int) (s:So):Wl × Int:=(if s.p=place then liv (mrg S (roomO s.L s.sq)) else roomO s.L s.sq,s.p)
def Src.pl (s:Src):Wl × Int:=(s.O,s.p)
theorem xKeysOf {R:World->Prop} (hR:KeptB R) {S:Wl} {sv:Value} {place:Int} (s:So) (hs:SoOk R s)
  (h3:KeysAt R S [] ⟨86,#[sv],#[]⟩ ⟨87,#[sv],#[]⟩) (w:World) :
  Calls Tryz.prog 35 #[.agg #[.pointer s.rp,.int .i64 s.sq,.int .i64 s.p],sv,.int .i64 place] w fun e w'=>∃ v,e=.returned v∧Below w.heap.size w w'∧Made R (srcPl S place s).1 w.heap.size w' v:=by
 unfold srcPl
 by_cases z:s.p=place
 ·rw [if_pos z,<-z]
  exact xKeysOfYes hR hs.rise w hs.seek hs.after h3
 ·rw [if_neg z]
  exact xKeysOfNo hR hs.rise w z hs.seek hs.after
structure CurNew (R:World->Prop) (w:World) (b:Nat) (frm to:ByteArray) (limit:Int) (Q:List (Wl × Int)) (ss:List Src) (v:Value) (wr:World):Prop where
 pl:ss.map Src.pl=Q
 cur:CurRow wr b v to limit 0 frm (-1)
 own:OwnSr wr (b+1) v ss
 keys:∀ s,s ∈ ss->KeysAt R s.O s.bx s.f s.h∧AllAt s.bx wr
 apart:∀ s,s ∈ ss->∀ r,r ∈ s.bx->b<r.1
 below:Below w.heap.size w wr
 new:w.heap.size<=b
 sep:∀ k,v.ownBlock=some k->∀ s,s ∈ ss->∀ r,r ∈ s.bx->r.1≠k
theorem xOpen {R:World->Prop} (hR:KeptB R) {S:Wl} {sv:Value} {place:Int} (l:List So) (A:Option Addr) (c:Nat) (frm to:ByteArray) (limit:Int) (w:World) (hr:R w) (h:SlSo w A l) (hl:l.length<=1000)
  (hs:∀ s,s ∈ l->SoOk R s) (h3:KeysAt R S [] ⟨86,#[sv],#[]⟩ ⟨87,#[sv],#[]⟩) (hf:frm.size<=1000) (ht:to.size<=1000)
  (g1:(l.all fun s=>s.rp.isSome)=true) (g2:riseF (-1) l=true) (g3:rgOk frm to limit=true) :
  Calls Tryz.prog 12 #[.slice A l.length c,.agg #[.string frm,.string to,.int .i64 limit],sv,.int .i64 place] w fun e w' =>
   ∃ b ss v,e=.returned (.tuple #[.pointer (some ⟨b,0,none⟩),.int .i64 0])∧CurNew R w b frm to limit (l.map (srcPl S place)) ss v w':=by
 obtain ⟨n,hn⟩:=nmq (l.length)
 obtain ⟨B,hB⟩:=nmq (w.heap.size)
 obtain ⟨W0,hW0⟩:=nmq (w.alloc (.cells #[.string frm,.string to,.int .i64 limit] 25))
 have R0:RowAt W0 B [.string frm,.string to,.int .i64 limit] 25:=by rw [hW0,hB]; exact RowAt.new _ _ _
 have b0:Below w.heap.size w W0:=by rw [hW0]; exact (Below.refl _ _).alloc (Nat.le_refl _) _
 have XT:=qh (fun W (hb:Below w.heap.size w W)=>xAllThere l A c W (h.below hb) hl)
 have XR:=qh (fun W (hb:Below w.heap.size w W)=>xRiseM l A c W (h.below hb) hl)
 have XG:=qh (xRightMg frm to limit)
 rw [g1,<-hn] at XT
 rw [g2,<-hn] at XR
 rw [g3] at XG
 have KF:=qh (fun w=>lclone frm w (Nat.le_trans hf (by decide)))
 have KT:=qh (fun w=>lclone to w (Nat.le_trans ht (by decide)))
 have CF:=qh (fun W (hb:Below W0.heap.size W0 W)=>show W.cell? ⟨B,0,none⟩=some (.string frm)∧W.cell? ⟨B,1,none⟩=some (.string to)∧W.cell? ⟨B,2,none⟩=some (.int .i64 limit) from ⟨(R0.below hb).cell 0,(R0.below hb).cell 1,(R0.below hb).cell 2⟩)
 have HR:=qh hR
 have HRW:=qh hr
 have HS:=qh hs
 have H3:=qh h3
 have HL:=qh h
 have HN:=qh hn
 have HB:=qh hB
 have B0:=qh b0
 have HW0:=qh (show w.alloc (.cells #[.string frm,.string to,.int .i64 limit] 25)=W0 from hW0.symm)
 rw [<-hn]
 have hl':n<=1000:=by omega
 clear hn hB hW0 R0 b0 hr h hl hs h3 hf ht g1 g2 g3 hR
 go_enter Tryz.func12,Tryz.ntmps12
 go_wp2_with fail
 rw [HW0.out,<-HB.out]
 refine (XT.out _ B0.out).mono ?_
 rintro e w1 ⟨rfl,hb1⟩
 have B1:=qh (Below.refl W0.heap.size W0 |>.trans hb1)
 clear hb1
 go_wp2_with fail
 refine (XR.out _ (B0.out.trans (B1.out.mono B0.out.size))).mono ?_
 rintro e w2 ⟨rfl,hb2⟩
 have B2:=qh (below_then B1.out hb2)
 clear hb2
 have y0:=(CF.out _ B2.out).1
 have y1:=(CF.out _ B2.out).2.1
 have y2:=(CF.out _ B2.out).2.2
 go_wp2_with fail
 refine (XG.out _).mono ?_
 rintro e w3 ⟨rfl,hb3⟩
 have B3:=qh (below_then B2.out hb3)
 clear hb3 y0 y1 y2
 go_wp2_with fail
 have BD:=qh B3.out.drew
 obtain ⟨Wd,hWd⟩:=nmq (w3.drew)
 rw [<-hWd] at BD
 refine wp_region_held_drew (S:=(fun W=>W.cell? ⟨B,0,none⟩=some (.string frm)∧W.cell? ⟨B,1,none⟩=some (.string to)∧W.cell? ⟨B,2,none⟩=some (.int .i64 limit))) (by kernel_rfl) (CF.out _ (hWd ▸ BD.out)) (fun gH=>?_)
 rw [<-hWd] at gH ⊢
 clear hWd
 refine rgT 0 (v:=?v1) ?y1 gH ?_
 case y1=>(intro v hSw; go_simp<;>rfl)
 refine rgT 1 (v:=?v2) ?y2 gH ?_
 case y2=>(intro v hSw; go_simp<;>rfl)
 refine rgT 3 (v:=?v3) ?y3 gH ?_
 case y3=>(intro v hSw; go_simp<;>rfl)
 try simp only [putS]
 refine rgT 4 (v:=?v4) ?y4 gH ?_
 case y4=>(intro v hSw; go_simp<;>rfl)
 refine rgT 5 (v:=?v5) ?y5 gH ?_
 case y5=>(intro v hSw; go_simp<;>rfl)
 refine rgT 6 (v:=?v6) ?y6 gH ?_
 case y6=>(intro v hSw; go_simp<;>rfl)
 try simp only [putS]
 refine rgO 2 fun K hK=>?_
 go_simp
 refine (KT.out _).mono ?_
 rintro r w5 ⟨rfl,hb5⟩
 have B5:=qh (below_then BD.out hb5)
 clear hb5
 refine hK.out _ _ (CF.out _ B5.out) (fun gH=>?_)
 clear hK K
 try simp only [putS]
 refine rgO 7 fun K hK=>?_
 go_simp
 refine (KF.out _).mono ?_
 rintro r w6 ⟨rfl,hb6⟩
 have B6:=qh (below_then B5.out hb6)
 clear hb6
 refine hK.out _ _ (CF.out _ B6.out) (fun gH=>?_)
 clear hK K
 refine rgT 8 (v:=?v7) ?y7 gH ?_
 case y7=>(intro v hSw; go_simp<;>rfl)
 try simp only [putS]
 refine rgO 9 fun K hK=>?_
 go_simp
 refine hK.out _ _ (CF.out _ (B6.out.alloc B6.out.size _)) (fun gH=>?_)
 clear hK K
 refine rgT 10 (v:=?v8) ?y8 gH ?_
 case y8=>(intro v hSw; go_simp<;>rfl)
 try simp only [putS]
 refine rgD ?_
 obtain ⟨b,hb⟩:=nmq (w6.heap.size)
 obtain ⟨W7,hW7⟩:=nmq (w6.alloc (.cells #[.slice none 0 0,.string to,.int .i64 limit,.int .i64 0,.string frm,.int .i64 (-1)] 100))
 have b7:Below W0.heap.size W0 W7:=by rw [hW7]; exact B6.out.alloc B6.out.size _
 have BW7:Below w.heap.size w W7:=B0.out.trans (b7.mono B0.out.size)
 have C7:CurRow W7 b (.slice none 0 0) to limit 0 frm (-1):=by rw [hW7,hb]; exact RowAt.new w6 _ _
 have NWB:=qh (show w.heap.size<=b by rw [hb]; have h1:=B0.out.size; have h2:=B6.out.size; omega)
 have ST:=qh (show CurNew R w b frm to limit ((l.take 0).map (srcPl S place)) [] (.slice none 0 0) W7 from ⟨rfl,C7,OwnSr.nil _ _,(fun s h=>by cases h),(fun s h=>by cases h),BW7,NWB.out,(fun k _ s h=>by cases h)⟩)
 rw [<-hW7,<-hb]
 clear hW7 hb b7 BW7 C7
 go_wp2_with fail
 go_loopw [36] (fun vi wr=>∃ i:Nat,i<=n∧vi=.int .i64 i∧Hid (∃ ss v,CurNew R w b frm to limit ((l.take i).map (srcPl S place)) ss v wr)) (fun vi _=>n-(intOf vi).toNat)
 case atStart=>exact ⟨0,Nat.zero_le _,rfl,[],_,ST.out⟩
 case round =>
  obtain ⟨i,hi,rfl,HO⟩:=hrel
  obtain ⟨ss,v,ho⟩:=HO.out
  by_cases q:i<n
  ·obtain ⟨s,hsi⟩:∃ s,l[i]?=some s:=⟨_,List.getElem?_eq_getElem (by rw [<-HN.out]; exact q)⟩
   obtain ⟨g,o,hA,hg,cc⟩:=(HL.out.below ho.below) (by rw [<-HN.out]; omega)
   obtain ⟨k0,k1,k2⟩:=cc i s hsi
   have sok:=HS.out s (List.mem_of_getElem? hsi)
   obtain ⟨E,hE⟩:=nmq (wr.heap.size)
   obtain ⟨W1,hW1⟩:=nmq (wr.alloc (.cells #[.pointer s.rp,.int .i64 s.sq,.int .i64 s.p] 71))
   have rE:RowAt W1 E [.pointer s.rp,.int .i64 s.sq,.int .i64 s.p] 71:=by rw [hW1,hE]; exact RowAt.new wr _ _
   have b1:Below wr.heap.size wr W1:=by rw [hW1]; exact (Below.refl _ _).alloc (Nat.le_refl _) _
   have c1:CurRow W1 b v to limit 0 frm (-1):=RowAt.below ho.cur b1
   have XK:=qh (fun W=>xKeysOf HR.out s sok H3.out (place:=place) W)
   have PL:=qh (show ∀ f:Src,f.pl=srcPl S place s->(ss++[f]).map Src.pl=(l.take (i+1)).map (srcPl S place) from fun f hf=>by
    rw [List.map_append,ho.pl,List.take_add_one,hsi,Option.toList_some,List.map_append,List.map_singleton,List.map_singleton,hf])
   have SP:=qh (show (srcPl S place s).2=s.p from rfl)
   have FX:=qh (fun W (hb:Below W1.heap.size W1 W)=>show W.cell? ⟨E,0,none⟩=some (.pointer s.rp)∧W.cell? ⟨E,1,none⟩=some (.int .i64 s.sq)∧W.cell? ⟨E,2,none⟩=some (.int .i64 s.p) from
    ⟨(rE.below hb).cell 0,(rE.below hb).cell 1,(rE.below hb).cell 2⟩)
   have SSL:ss.length=i:=by
    have:=congrArg List.length ho.pl
    rw [List.length_map,List.length_map,List.length_take] at this
    have h9:=HN.out
    omega
   have SL:=qh SSL
   have OW:=qh ho
   have HB1:=qh b1
   have HC1:=qh c1
   have HRE:=qh rE
   obtain ⟨Pq,hPq⟩:=nmq (srcPl S place s)
   rw [<-hPq] at XK PL SP
   obtain ⟨rp,Lc,sq,p⟩:=s
   simp only at k0 k1 k2 XK FX hW1 SP
   have HW1:=qh (show wr.alloc (.cells #[.pointer rp,.int .i64 sq,.int .i64 p] 71)=W1 from hW1.symm)
   have HE:=qh hE
   subst hA
   clear hE hW1 cc hsi hg rE b1 c1 sok hPq SSL ho HO
   go_wp2_with fail
   rw [HW1.out,<-HE.out]
   clear k0 k1 k2
   obtain ⟨Wd,hWd⟩:=nmq (W1.drew)
   have BD:=qh (show Below W1.heap.size W1 Wd by rw [hWd]; exact (Below.refl _ _).drew)
   have yb:=RowAt.cell (RowAt.below HC1.out BD.out) 0
   simp only [List.getElem?_cons_zero] at yb
   refine wp_region_held_drew (S:=(fun W=>W.cell? ⟨E,0,none⟩=some (.pointer rp)∧W.cell? ⟨E,1,none⟩=some (.int .i64 sq)∧W.cell? ⟨E,2,none⟩=some (.int .i64 p))) (by kernel_rfl) (FX.out _ (hWd ▸ BD.out)) (fun gH=>?_)
   rw [<-hWd] at gH ⊢
   clear hWd
   refine rgT 0 (v:=?v9) ?y9 gH ?_
   case y9=>(intro v hSw; go_simp<;>rfl)
   refine rgT 1 (v:=?v10) ?y10 gH ?_
   case y10=>(intro v hSw; go_simp<;>rfl)
   refine rgT 2 (v:=?v11) ?y11 gH ?_
   case y11=>(intro v hSw; go_simp<;>rfl)
   try simp only [putS]
   refine rgT 3 (v:=?v12) ?y12 gH ?_
   case y12=>(intro v hSw; go_simp<;>rfl)
   refine rgT 5 (v:=?v13) ?y13 gH ?_
   case y13=>(intro v hSw; go_simp<;>rfl)
   refine rgT 6 (v:=?v14) ?y14 gH ?_
   case y14=>(intro v hSw; go_simp<;>rfl)
   try simp only [putS]
   refine rgT 7 (v:=?v15) ?y15 gH ?_
   case y15=>(intro v hSw; go_simp<;>rfl)
   refine rgT 9 (v:=?v16) ?y16 gH ?_
   case y16=>(intro v hSw; go_simp<;>rfl)
   refine rgT 10 (v:=?v17) ?y17 gH ?_
   case y17=>(intro v hSw; go_simp<;>rfl)
   try simp only [putS]
   refine rgnTwo 4 8 rfl rfl (by kernel_rfl) (fun K hK=>?_) (fun K hK=>?_)
   ·go_simp
    refine hK.out _ _ ((FX.out _ BD.out)) (fun gH=>?_)
    clear hK K
    try simp only [putS]
    clear yb
    refine rgO 8 fun K hK=>?_
    go_simp
    refine (XK.out _).mono ?_
    rintro r w6 ⟨v6,rfl,hb6,bx,f,h,rfl,hk6,ha6,hg6⟩
    have B6:=qh (below_then BD.out hb6)
    have K6:=qh hk6
    have A6:=qh ha6
    have G6:=qh (show ∀ r,r ∈ bx->b<r.1 from fun r hr=>by
     have h1:=hg6 r hr
     have h2:=BD.out.size
     have h3:=HB1.out.size
     have h4:=RowAt.lt OW.out.cur
     omega)
    have G6b:=qh (show ∀ r,r ∈ bx->wr.heap.size<=r.1 from fun r hr=>by
     have h1:=hg6 r hr
     have h2:=BD.out.size
     have h3:=HB1.out.size
     omega)
    clear hb6 hk6 ha6 hg6
    obtain ⟨nf,ff,cf⟩:=f
    obtain ⟨nh,fh,ch⟩:=h
    refine hK.out _ _ (FX.out _ B6.out) (fun gH=>?_)
    clear hK K
    refine rgT 11 (v:=?v18) ?y18 gH ?_
    case y18=>(intro v hSw; go_simp<;>rfl)
    try simp only [putS]
    refine rgO 12 fun K hK=>?_
    go_simp
    refine hK.out _ _ (FX.out _ (B6.out.alloc B6.out.size _)) (fun gH=>?_)
    clear hK K
    try simp only [putS]
    obtain ⟨D,hD⟩:=nmq (w6.heap.size)
    obtain ⟨W8,hW8⟩:=nmq (w6.alloc (.cells #[(Fn.mk nf ff cf).v,(Fn.mk nh fh ch).v,.int .i64 p] 107))
    have B8:=qh (show Below W1.heap.size W1 W8 by rw [hW8]; exact B6.out.alloc B6.out.size _)
    have R8:=qh (show RowAt W8 D (Src.cs ⟨Pq.1,bx,⟨nf,ff,cf⟩,⟨nh,fh,ch⟩,p⟩) 107 by rw [hW8,hD]; exact RowAt.new w6 _ _)
    have A8:=qh (show AllAt bx W8 by rw [hW8]; exact A6.out.below ((Below.refl _ _).alloc (Nat.le_refl _) _))
    have O8:=qh (show OwnSr W8 (b+1) v ss from OW.out.own.below (HB1.out.trans (B8.out.mono HB1.out.size)))
    have C8:=qh (show CurRow W8 b v to limit 0 frm (-1) from RowAt.below HC1.out B8.out)
    have bl8:=qh (show b+1<=W8.heap.size from RowAt.lt C8.out)
    rw [<-hW8,<-hD]
    clear hW8 hD
    refine rgO 13 fun K hK=>?_
    refine step_putSr rfl (.tmp 44) (.tmp 52) rfl (b+1) v ss rfl O8.out D ⟨Pq.1,bx,⟨nf,ff,cf⟩,⟨nh,fh,ch⟩,p⟩ rfl (fun k _=>R8.out.cell k) (by have:=SL.out; omega) bl8.out ?_
    intro v9 w9 ho9 hg9 hv9
    have lt8:=O8.out.lt
    have ltr:=OW.out.own.lt
    have gW:Chg (fun k=>v.ownBlock=some k) W8 w9:=(Chg.refl _ _).grown hg9 (fun k e=>.inl e)
    have C9:=qh (show CurRow w9 b v to limit 0 frm (-1) from RowAt.keep C8.out gW (fun e=>by have:=(lt8 b e).1; omega))
    have E9:=qh (show RowAt w9 E [.pointer rp,.int .i64 sq,.int .i64 p] 71 from (HRE.out.below B8.out).keep gW (fun e=>by have:=(ltr E e).2; have:=HE.out; omega))
    have BB9:=qh (show Below w.heap.size w w9 by
     have h1:Below w.heap.size w W8:=OW.out.below.trans ((HB1.out.trans (B8.out.mono HB1.out.size)).mono OW.out.below.size)
     exact h1.grown hg9 h1.size (fun k e=>by have:=(lt8 k e).1; have:=OW.out.new; omega))
    have KA9:=qh (show ∀ s,s ∈ ss++[(⟨Pq.1,bx,⟨nf,ff,cf⟩,⟨nh,fh,ch⟩,p⟩:Src)]->KeysAt R s.O s.bx s.f s.h from fun s hs=>by
     rcases List.mem_append.1 hs with hs | hs
     ·exact (OW.out.keys s hs).1
     ·rw [List.mem_singleton.1 hs]; exact K6.out)
    have GA9:=qh (show ∀ s,s ∈ ss++[(⟨Pq.1,bx,⟨nf,ff,cf⟩,⟨nh,fh,ch⟩,p⟩:Src)]->∀ r,r ∈ s.bx->b<r.1 from fun s hs=>by
     rcases List.mem_append.1 hs with hs | hs
     ·exact OW.out.apart s hs
     ·rw [List.mem_singleton.1 hs]; exact G6.out)
    have PL9:=qh (PL.out ⟨Pq.1,bx,⟨nf,ff,cf⟩,⟨nh,fh,ch⟩,p⟩ (by rw [<-SP.out]; rfl))
    have AA8:=qh (show ∀ s,s ∈ ss++[(⟨Pq.1,bx,⟨nf,ff,cf⟩,⟨nh,fh,ch⟩,p⟩:Src)]->AllAt s.bx W8∧∀ r,r ∈ s.bx->v.ownBlock≠some r.1 from fun s hs=>by
     rcases List.mem_append.1 hs with hs | hs
     ·exact ⟨(OW.out.keys s hs).2.below (HB1.out.trans (B8.out.mono HB1.out.size)),fun r hr e=>OW.out.sep r.1 e s hs r hr rfl⟩
     ·rw [List.mem_singleton.1 hs]
      exact ⟨A8.out,fun r hr e=>by have h1:=(ltr r.1 e).2; have h2:=G6b.out r hr; omega⟩)
    have AA9:=qh (show ∀ s,s ∈ ss++[(⟨Pq.1,bx,⟨nf,ff,cf⟩,⟨nh,fh,ch⟩,p⟩:Src)]->AllAt s.bx w9 from fun s hs r hr=>((AA8.out s hs).1 r hr).keep gW ((AA8.out s hs).2 r hr))
    have SP9:=qh (show ∀ k,v9.ownBlock=some k->∀ s,s ∈ ss++[(⟨Pq.1,bx,⟨nf,ff,cf⟩,⟨nh,fh,ch⟩,p⟩:Src)]->∀ r,r ∈ s.bx->r.1≠k from fun k hk s hs r hr e=>by
     rcases hv9 with z | z
     ·rw [hk] at z
      exact (AA8.out s hs).2 r hr (by rw [e]; exact z.symm)
     ·rw [hk] at z
      injection z with z
      have:=((AA8.out s hs).1 r hr).lt
      omega)
    obtain ⟨A9,c9,e9,_⟩:=ho9.sl
    obtain ⟨m9,hm9⟩:=nmq ((ss++[(⟨Pq.1,bx,⟨nf,ff,cf⟩,⟨nh,fh,ch⟩,p⟩:Src)]).length)
    rw [<-hm9] at e9
    subst e9
    have fin:=qh (show CurNew R w b frm to limit ((l.take (i+1)).map (srcPl S place)) (ss++[(⟨Pq.1,bx,⟨nf,ff,cf⟩,⟨nh,fh,ch⟩,p⟩:Src)]) (.slice A9 m9 c9) (w9.setCell ⟨b,0,none⟩ (.slice A9 m9 c9)) from
     ⟨PL9.out,RowAt.set C9.out 0 _,ho9.chg ((Chg.refl (fun q=>q=b) _).setCell (p:=⟨b,0,none⟩) (.inl rfl) _) (fun k hk e=>by omega),
      fun s hs=>⟨KA9.out s hs,fun r hr=>(AA9.out s hs r hr).other (show b≠r.1 by have:=GA9.out s hs r hr; omega) _⟩,GA9.out,BB9.out.setCell (p:=⟨b,0,none⟩) OW.out.new _,OW.out.new,SP9.out⟩)
    have nEb:=qh (show b≠E by have:=RowAt.lt OW.out.cur; have:=HE.out; omega)
    have EZ:=qh (E9.out.other (p:=⟨b,0,none⟩) nEb.out (.slice A9 m9 c9))
    have z0:=RowAt.frozen C9.out 0
    have zc:=RowAt.cell C9.out 0
    simp only [List.getElem?_cons_zero] at zc
    refine hK.out _ _ ⟨E9.out.cell 0,E9.out.cell 1,E9.out.cell 2⟩ (fun gH=>?_)
    clear hK K gW lt8 ltr ho9 hg9 hv9 hm9
    refine rgT 14 (v:=?v19) ?y19 gH ?_
    case y19=>(intro v hSw; go_simp<;>rfl)
    refine rgT 15 (v:=?v20) ?y20 gH ?_
    case y20=>(intro v hSw; go_simp<;>rfl)
    try simp only [putS]
    refine rgO 16 fun K hK=>?_
    go_simp
    refine hK.out _ _ (⟨EZ.out.cell 0,EZ.out.cell 1,EZ.out.cell 2⟩) (fun gH=>?_)
    clear hK K
    try simp only [putS]
    refine rgD ?_
    clear z0 zc
    go_wp2_with fail
    go_roundw
    case rel=>exact ⟨i+1,by omega,by go_num,_,_,fin.out⟩
    case measure=>simp [intOf]; omega
   ·clear yb
    go_simp
    refine (XK.out _).mono ?_
    rintro r w6 ⟨v6,rfl,hb6,bx,f,h,rfl,hk6,ha6,hg6⟩
    have B6:=qh (below_then BD.out hb6)
    have K6:=qh hk6
    have A6:=qh ha6
    have G6:=qh (show ∀ r,r ∈ bx->b<r.1 from fun r hr=>by
     have h1:=hg6 r hr
     have h2:=BD.out.size
     have h3:=HB1.out.size
     have h4:=RowAt.lt OW.out.cur
     omega)
    have G6b:=qh (show ∀ r,r ∈ bx->wr.heap.size<=r.1 from fun r hr=>by
     have h1:=hg6 r hr
     have h2:=BD.out.size
     have h3:=HB1.out.size
     omega)
    clear hb6 hk6 ha6 hg6
    obtain ⟨nf,ff,cf⟩:=f
    obtain ⟨nh,fh,ch⟩:=h
    refine hK.out _ _ (FX.out _ B6.out) (fun gH=>?_)
    clear hK K
    refine rgT 11 (v:=?v21) ?y21 gH ?_
    case y21=>(intro v hSw; go_simp<;>rfl)
    try simp only [putS]
    have yb:=RowAt.cell (RowAt.below HC1.out B6.out) 0
    simp only [List.getElem?_cons_zero] at yb
    refine rgnTwo 4 12 rfl rfl (by kernel_rfl) (fun K hK=>?_) (fun K hK=>?_)
    ·go_simp
     refine hK.out _ _ ((FX.out _ B6.out)) (fun gH=>?_)
     clear hK K
     try simp only [putS]
     clear yb
     refine rgO 12 fun K hK=>?_
     go_simp
     refine hK.out _ _ (FX.out _ (B6.out.alloc B6.out.size _)) (fun gH=>?_)
     clear hK K
     try simp only [putS]
     obtain ⟨D,hD⟩:=nmq (w6.heap.size)
     obtain ⟨W8,hW8⟩:=nmq (w6.alloc (.cells #[(Fn.mk nf ff cf).v,(Fn.mk nh fh ch).v,.int .i64 p] 107))
     have B8:=qh (show Below W1.heap.size W1 W8 by rw [hW8]; exact B6.out.alloc B6.out.size _)
     have R8:=qh (show RowAt W8 D (Src.cs ⟨Pq.1,bx,⟨nf,ff,cf⟩,⟨nh,fh,ch⟩,p⟩) 107 by rw [hW8,hD]; exact RowAt.new w6 _ _)
     have A8:=qh (show AllAt bx W8 by rw [hW8]; exact A6.out.below ((Below.refl _ _).alloc (Nat.le_refl _) _))
     have O8:=qh (show OwnSr W8 (b+1) v ss from OW.out.own.below (HB1.out.trans (B8.out.mono HB1.out.size)))
     have C8:=qh (show CurRow W8 b v to limit 0 frm (-1) from RowAt.below HC1.out B8.out)
     have bl8:=qh (show b+1<=W8.heap.size from RowAt.lt C8.out)
     rw [<-hW8,<-hD]
     clear hW8 hD
     refine rgO 13 fun K hK=>?_
     refine step_putSr rfl (.tmp 44) (.tmp 52) rfl (b+1) v ss rfl O8.out D ⟨Pq.1,bx,⟨nf,ff,cf⟩,⟨nh,fh,ch⟩,p⟩ rfl (fun k _=>R8.out.cell k) (by have:=SL.out; omega) bl8.out ?_
     intro v9 w9 ho9 hg9 hv9
     have lt8:=O8.out.lt
     have ltr:=OW.out.own.lt
     have gW:Chg (fun k=>v.ownBlock=some k) W8 w9:=(Chg.refl _ _).grown hg9 (fun k e=>.inl e)
     have C9:=qh (show CurRow w9 b v to limit 0 frm (-1) from RowAt.keep C8.out gW (fun e=>by have:=(lt8 b e).1; omega))
     have E9:=qh (show RowAt w9 E [.pointer rp,.int .i64 sq,.int .i64 p] 71 from (HRE.out.below B8.out).keep gW (fun e=>by have:=(ltr E e).2; have:=HE.out; omega))
     have BB9:=qh (show Below w.heap.size w w9 by
      have h1:Below w.heap.size w W8:=OW.out.below.trans ((HB1.out.trans (B8.out.mono HB1.out.size)).mono OW.out.below.size)
      exact h1.grown hg9 h1.size (fun k e=>by have:=(lt8 k e).1; have:=OW.out.new; omega))
     have KA9:=qh (show ∀ s,s ∈ ss++[(⟨Pq.1,bx,⟨nf,ff,cf⟩,⟨nh,fh,ch⟩,p⟩:Src)]->KeysAt R s.O s.bx s.f s.h from fun s hs=>by
      rcases List.mem_append.1 hs with hs | hs
      ·exact (OW.out.keys s hs).1
      ·rw [List.mem_singleton.1 hs]; exact K6.out)
     have GA9:=qh (show ∀ s,s ∈ ss++[(⟨Pq.1,bx,⟨nf,ff,cf⟩,⟨nh,fh,ch⟩,p⟩:Src)]->∀ r,r ∈ s.bx->b<r.1 from fun s hs=>by
      rcases List.mem_append.1 hs with hs | hs
      ·exact OW.out.apart s hs
      ·rw [List.mem_singleton.1 hs]; exact G6.out)
     have PL9:=qh (PL.out ⟨Pq.1,bx,⟨nf,ff,cf⟩,⟨nh,fh,ch⟩,p⟩ (by rw [<-SP.out]; rfl))
     have AA8:=qh (show ∀ s,s ∈ ss++[(⟨Pq.1,bx,⟨nf,ff,cf⟩,⟨nh,fh,ch⟩,p⟩:Src)]->AllAt s.bx W8∧∀ r,r ∈ s.bx->v.ownBlock≠some r.1 from fun s hs=>by
      rcases List.mem_append.1 hs with hs | hs
      ·exact ⟨(OW.out.keys s hs).2.below (HB1.out.trans (B8.out.mono HB1.out.size)),fun r hr e=>OW.out.sep r.1 e s hs r hr rfl⟩
      ·rw [List.mem_singleton.1 hs]
       exact ⟨A8.out,fun r hr e=>by have h1:=(ltr r.1 e).2; have h2:=G6b.out r hr; omega⟩)
     have AA9:=qh (show ∀ s,s ∈ ss++[(⟨Pq.1,bx,⟨nf,ff,cf⟩,⟨nh,fh,ch⟩,p⟩:Src)]->AllAt s.bx w9 from fun s hs r hr=>((AA8.out s hs).1 r hr).keep gW ((AA8.out s hs).2 r hr))
     have SP9:=qh (show ∀ k,v9.ownBlock=some k->∀ s,s ∈ ss++[(⟨Pq.1,bx,⟨nf,ff,cf⟩,⟨nh,fh,ch⟩,p⟩:Src)]->∀ r,r ∈ s.bx->r.1≠k from fun k hk s hs r hr e=>by
      rcases hv9 with z | z
      ·rw [hk] at z
       exact (AA8.out s hs).2 r hr (by rw [e]; exact z.symm)
      ·rw [hk] at z
       injection z with z
       have:=((AA8.out s hs).1 r hr).lt
       omega)
     obtain ⟨A9,c9,e9,_⟩:=ho9.sl
     obtain ⟨m9,hm9⟩:=nmq ((ss++[(⟨Pq.1,bx,⟨nf,ff,cf⟩,⟨nh,fh,ch⟩,p⟩:Src)]).length)
     rw [<-hm9] at e9
     subst e9
     have fin:=qh (show CurNew R w b frm to limit ((l.take (i+1)).map (srcPl S place)) (ss++[(⟨Pq.1,bx,⟨nf,ff,cf⟩,⟨nh,fh,ch⟩,p⟩:Src)]) (.slice A9 m9 c9) (w9.setCell ⟨b,0,none⟩ (.slice A9 m9 c9)) from
      ⟨PL9.out,RowAt.set C9.out 0 _,ho9.chg ((Chg.refl (fun q=>q=b) _).setCell (p:=⟨b,0,none⟩) (.inl rfl) _) (fun k hk e=>by omega),
       fun s hs=>⟨KA9.out s hs,fun r hr=>(AA9.out s hs r hr).other (show b≠r.1 by have:=GA9.out s hs r hr; omega) _⟩,GA9.out,BB9.out.setCell (p:=⟨b,0,none⟩) OW.out.new _,OW.out.new,SP9.out⟩)
     have nEb:=qh (show b≠E by have:=RowAt.lt OW.out.cur; have:=HE.out; omega)
     have EZ:=qh (E9.out.other (p:=⟨b,0,none⟩) nEb.out (.slice A9 m9 c9))
     have z0:=RowAt.frozen C9.out 0
     have zc:=RowAt.cell C9.out 0
     simp only [List.getElem?_cons_zero] at zc
     refine hK.out _ _ ⟨E9.out.cell 0,E9.out.cell 1,E9.out.cell 2⟩ (fun gH=>?_)
     clear hK K gW lt8 ltr ho9 hg9 hv9 hm9
     refine rgT 14 (v:=?v22) ?y22 gH ?_
     case y22=>(intro v hSw; go_simp<;>rfl)
     refine rgT 15 (v:=?v23) ?y23 gH ?_
     case y23=>(intro v hSw; go_simp<;>rfl)
     try simp only [putS]
     refine rgO 16 fun K hK=>?_
     go_simp
     refine hK.out _ _ (⟨EZ.out.cell 0,EZ.out.cell 1,EZ.out.cell 2⟩) (fun gH=>?_)
     clear hK K
     try simp only [putS]
     refine rgD ?_
     clear z0 zc
     go_wp2_with fail
     go_roundw
     case rel=>exact ⟨i+1,by omega,by go_num,_,_,fin.out⟩
     case measure=>simp [intOf]; omega
    ·go_simp
     refine hK.out _ _ ((FX.out _ (B6.out.alloc B6.out.size _))) (fun gH=>?_)
     clear hK K
     try simp only [putS]
     clear yb
     obtain ⟨D,hD⟩:=nmq (w6.heap.size)
     obtain ⟨W8,hW8⟩:=nmq (w6.alloc (.cells #[(Fn.mk nf ff cf).v,(Fn.mk nh fh ch).v,.int .i64 p] 107))
     have B8:=qh (show Below W1.heap.size W1 W8 by rw [hW8]; exact B6.out.alloc B6.out.size _)
     have R8:=qh (show RowAt W8 D (Src.cs ⟨Pq.1,bx,⟨nf,ff,cf⟩,⟨nh,fh,ch⟩,p⟩) 107 by rw [hW8,hD]; exact RowAt.new w6 _ _)
     have A8:=qh (show AllAt bx W8 by rw [hW8]; exact A6.out.below ((Below.refl _ _).alloc (Nat.le_refl _) _))
     have O8:=qh (show OwnSr W8 (b+1) v ss from OW.out.own.below (HB1.out.trans (B8.out.mono HB1.out.size)))
     have C8:=qh (show CurRow W8 b v to limit 0 frm (-1) from RowAt.below HC1.out B8.out)
     have bl8:=qh (show b+1<=W8.heap.size from RowAt.lt C8.out)
     rw [<-hW8,<-hD]
     clear hW8 hD
     have yb:=RowAt.cell C8.out 0
     simp only [List.getElem?_cons_zero] at yb
     refine rgO 4 fun K hK=>?_
     go_simp
     refine hK.out _ _ ((FX.out _ B8.out)) (fun gH=>?_)
     clear hK K
     try simp only [putS]
     clear yb
     refine rgO 13 fun K hK=>?_
     refine step_putSr rfl (.tmp 44) (.tmp 52) rfl (b+1) v ss rfl O8.out D ⟨Pq.1,bx,⟨nf,ff,cf⟩,⟨nh,fh,ch⟩,p⟩ rfl (fun k _=>R8.out.cell k) (by have:=SL.out; omega) bl8.out ?_
     intro v9 w9 ho9 hg9 hv9
     have lt8:=O8.out.lt
     have ltr:=OW.out.own.lt
     have gW:Chg (fun k=>v.ownBlock=some k) W8 w9:=(Chg.refl _ _).grown hg9 (fun k e=>.inl e)
     have C9:=qh (show CurRow w9 b v to limit 0 frm (-1) from RowAt.keep C8.out gW (fun e=>by have:=(lt8 b e).1; omega))
     have E9:=qh (show RowAt w9 E [.pointer rp,.int .i64 sq,.int .i64 p] 71 from (HRE.out.below B8.out).keep gW (fun e=>by have:=(ltr E e).2; have:=HE.out; omega))
     have BB9:=qh (show Below w.heap.size w w9 by
      have h1:Below w.heap.size w W8:=OW.out.below.trans ((HB1.out.trans (B8.out.mono HB1.out.size)).mono OW.out.below.size)
      exact h1.grown hg9 h1.size (fun k e=>by have:=(lt8 k e).1; have:=OW.out.new; omega))
     have KA9:=qh (show ∀ s,s ∈ ss++[(⟨Pq.1,bx,⟨nf,ff,cf⟩,⟨nh,fh,ch⟩,p⟩:Src)]->KeysAt R s.O s.bx s.f s.h from fun s hs=>by
      rcases List.mem_append.1 hs with hs | hs
      ·exact (OW.out.keys s hs).1
      ·rw [List.mem_singleton.1 hs]; exact K6.out)
     have GA9:=qh (show ∀ s,s ∈ ss++[(⟨Pq.1,bx,⟨nf,ff,cf⟩,⟨nh,fh,ch⟩,p⟩:Src)]->∀ r,r ∈ s.bx->b<r.1 from fun s hs=>by
      rcases List.mem_append.1 hs with hs | hs
      ·exact OW.out.apart s hs
      ·rw [List.mem_singleton.1 hs]; exact G6.out)
     have PL9:=qh (PL.out ⟨Pq.1,bx,⟨nf,ff,cf⟩,⟨nh,fh,ch⟩,p⟩ (by rw [<-SP.out]; rfl))
     have AA8:=qh (show ∀ s,s ∈ ss++[(⟨Pq.1,bx,⟨nf,ff,cf⟩,⟨nh,fh,ch⟩,p⟩:Src)]->AllAt s.bx W8∧∀ r,r ∈ s.bx->v.ownBlock≠some r.1 from fun s hs=>by
      rcases List.mem_append.1 hs with hs | hs
      ·exact ⟨(OW.out.keys s hs).2.below (HB1.out.trans (B8.out.mono HB1.out.size)),fun r hr e=>OW.out.sep r.1 e s hs r hr rfl⟩
      ·rw [List.mem_singleton.1 hs]
       exact ⟨A8.out,fun r hr e=>by have h1:=(ltr r.1 e).2; have h2:=G6b.out r hr; omega⟩)
     have AA9:=qh (show ∀ s,s ∈ ss++[(⟨Pq.1,bx,⟨nf,ff,cf⟩,⟨nh,fh,ch⟩,p⟩:Src)]->AllAt s.bx w9 from fun s hs r hr=>((AA8.out s hs).1 r hr).keep gW ((AA8.out s hs).2 r hr))
     have SP9:=qh (show ∀ k,v9.ownBlock=some k->∀ s,s ∈ ss++[(⟨Pq.1,bx,⟨nf,ff,cf⟩,⟨nh,fh,ch⟩,p⟩:Src)]->∀ r,r ∈ s.bx->r.1≠k from fun k hk s hs r hr e=>by
      rcases hv9 with z | z
      ·rw [hk] at z
       exact (AA8.out s hs).2 r hr (by rw [e]; exact z.symm)
      ·rw [hk] at z
       injection z with z
       have:=((AA8.out s hs).1 r hr).lt
       omega)
     obtain ⟨A9,c9,e9,_⟩:=ho9.sl
     obtain ⟨m9,hm9⟩:=nmq ((ss++[(⟨Pq.1,bx,⟨nf,ff,cf⟩,⟨nh,fh,ch⟩,p⟩:Src)]).length)
     rw [<-hm9] at e9
     subst e9
     have fin:=qh (show CurNew R w b frm to limit ((l.take (i+1)).map (srcPl S place)) (ss++[(⟨Pq.1,bx,⟨nf,ff,cf⟩,⟨nh,fh,ch⟩,p⟩:Src)]) (.slice A9 m9 c9) (w9.setCell ⟨b,0,none⟩ (.slice A9 m9 c9)) from
      ⟨PL9.out,RowAt.set C9.out 0 _,ho9.chg ((Chg.refl (fun q=>q=b) _).setCell (p:=⟨b,0,none⟩) (.inl rfl) _) (fun k hk e=>by omega),
       fun s hs=>⟨KA9.out s hs,fun r hr=>(AA9.out s hs r hr).other (show b≠r.1 by have:=GA9.out s hs r hr; omega) _⟩,GA9.out,BB9.out.setCell (p:=⟨b,0,none⟩) OW.out.new _,OW.out.new,SP9.out⟩)
     have nEb:=qh (show b≠E by have:=RowAt.lt OW.out.cur; have:=HE.out; omega)
     have EZ:=qh (E9.out.other (p:=⟨b,0,none⟩) nEb.out (.slice A9 m9 c9))
     have z0:=RowAt.frozen C9.out 0
     have zc:=RowAt.cell C9.out 0
     simp only [List.getElem?_cons_zero] at zc
     refine hK.out _ _ ⟨E9.out.cell 0,E9.out.cell 1,E9.out.cell 2⟩ (fun gH=>?_)
     clear hK K gW lt8 ltr ho9 hg9 hv9 hm9
     refine rgT 14 (v:=?v24) ?y24 gH ?_
     case y24=>(intro v hSw; go_simp<;>rfl)
     refine rgT 15 (v:=?v25) ?y25 gH ?_
     case y25=>(intro v hSw; go_simp<;>rfl)
     try simp only [putS]
     refine rgO 16 fun K hK=>?_
     go_simp
     refine hK.out _ _ (⟨EZ.out.cell 0,EZ.out.cell 1,EZ.out.cell 2⟩) (fun gH=>?_)
     clear hK K
     try simp only [putS]
     refine rgD ?_
     clear z0 zc
     go_wp2_with fail
     go_roundw
     case rel=>exact ⟨i+1,by omega,by go_num,_,_,fin.out⟩
     case measure=>simp [intOf]; omega
  ·have hin:i=n:=by omega
   subst hin
   have OE:=qh (show CurNew R w b frm to limit (l.map (srcPl S place)) ss v wr by
    have h9:=ho
    rw [HN.out,List.take_length] at h9
    exact h9)
   clear ho HO
   go_wp2_with fail
   go_ret2
   exact ⟨b,ss,v,rfl,OE.out⟩

end Go.Proofs.YtoljhoabbaigdaaGreat

namespace Go.Proofs.YtoljhoabbaigdaaGreat
open Go.RowKit

structure RoomMe (R:RelM):Prop where
 keep:∀ {w w':World} {b:Nat} {F:Nat->Prop} {m:Rm},R w b F m->(∀ k,F k->w'.heap[k]?=w.heap[k]?)->w.heap.size<=w'.heap.size->R w' b F m
 lt:∀ {w:World} {b:Nat} {F:Nat->Prop} {m:Rm} {k:Nat},R w b F m->F k->k<w.heap.size
 new:∀ (A:Option Addr) (c:Nat) (zs:List Int) (g1 g2 g3:Int) (w:World),Sl w A zs->zs.length<=1000->La.U64 zs →
  Calls Tryz.prog 26 #[.agg #[.slice A zs.length c,.int .i64 g1,.int .i64 g2,.int .i64 g3]] w fun e w'=>Below w.heap.size w w' ∧
   ((stOk zs g1 g2 g3=true∧∃ b F,e=.returned (.tuple #[PtrM b,.int .i64 0])∧R w' b F (Rm.new zs g1 g2 g3 0 [])∧∀ k,F k->w.heap.size<=k) ∨
    (stOk zs g1 g2 g3=false∧e=.returned (.tuple #[.pointer none,.int .i64 1])))
 commit:∀ (b:Nat) (F:Nat->Prop) (m:Rm) (ws:List Wr) (A:Option Addr) (c:Nat) (x:Int) (w:World),R w b F m->m.Few->GoodW w F A ws->0<=x->x<=18446744073709551615 →
  Calls Tryz.prog 24 #[PtrM b,.slice A ws.length c,.int .u64 x] w fun e w'=>e=.returned (.tuple #[.int .i64 (m.comN ws x),.int .i64 (m.comE ws x)])∧LeftM R b F w (m.com ws x) w'
 seek:∀ (b:Nat) (F:Nat->Prop) (m:Rm) (k:ByteArray) (s:Int) (w:World),R w b F m →
  Calls Tryz.prog 89 #[PtrM b,.string k,.int .i64 s] w fun e w'=>e=.returned (.tuple #[.string (aftV m.L k false s).1,(aftV m.L k false s).2.1.v,.bool (aftV m.L k false s).2.2])∧Below w.heap.size w w'
 after:∀ (b:Nat) (F:Nat->Prop) (m:Rm) (k:ByteArray) (s:Int) (w:World),R w b F m →
  Calls Tryz.prog 90 #[PtrM b,.string k,.int .i64 s] w fun e w'=>e=.returned (.tuple #[.string (aftV m.L k true s).1,(aftV m.L k true s).2.1.v,.bool (aftV m.L k true s).2.2])∧Below w.heap.size w w'
 ok:∀ {w:World} {b:Nat} {F:Nat->Prop} {m:Rm},R w b F m->m.Ok

theorem roomO_rise {L:Ch} (h:L.Rise) (s:Int):(roomO L s).Rise:=by
 have e:=ents_rise h s
 unfold Wl.Rise Wl.ch Ch.Rise roomO
 rw [List.map_map,List.pairwise_map]
 exact e
theorem goes_seekR:Goes 89:=enters_of Tryz.func89 (by kernel_rfl) rfl
theorem goes_afterR:Goes 90:=enters_of Tryz.func90 (by kernel_rfl) rfl
theorem goes_seekS:Goes 86:=enters_of Tryz.func86 (by kernel_rfl) rfl
theorem goes_afterS:Goes 87:=enters_of Tryz.func87 (by kernel_rfl) rfl
theorem soOk {R:RelM} (X:RoomMe R) {P:World->Prop} {b:Nat} {F:Nat->Prop} {m:Rm} (hP:∀ W,P W->R W b F m) (hr:m.L.Rise) (s:So) (e1:s.rp=some ⟨b,0,none⟩) (e2:s.L=m.L):SoOk P s:=by
 obtain ⟨rp,L,sq,p⟩:=s
 simp only at e1 e2
 subst e1; subst e2
 exact ⟨roomO_rise hr sq,⟨goes_seekR,fun W k hw=>X.seek b F m k sq W (hP W hw)⟩,⟨goes_afterR,fun W k hw=>X.after b F m k sq W (hP W hw)⟩⟩
theorem keysNil (P:World->Prop):KeysAt P [] [] ⟨86,#[.pointer none],#[]⟩ ⟨87,#[.pointer none],#[]⟩ :=
 KeysAt.set (by unfold Wl.Rise Wl.ch Ch.Rise; exact List.Pairwise.nil) ⟨goes_seekS,fun W k _=>xSeekNil13 k W⟩ ⟨goes_afterS,fun W k _=>xAfterNil13 k W⟩
theorem liv_nil:liv (mrg [] [])=[]:=by rw [mrg]; rfl
def bare (q:Wl × Int):Src:=⟨q.1,[],⟨0,#[],#[]⟩,⟨0,#[],#[]⟩,q.2⟩
theorem nst_bare (to key:ByteArray) (place:Int) (y:Best) (s:Src):nst to key place y s=nst to key place y (bare s.pl):=rfl
theorem fold_bare (to key:ByteArray) (place:Int):∀ (ss:List Src) (y:Best),ss.foldl (nst to key place) y=((ss.map Src.pl).map bare).foldl (nst to key place) y
 | [],_=>rfl
 | s :: ss,y=>by rw [List.foldl_cons,List.map_cons,List.map_cons,List.foldl_cons,<-nst_bare,fold_bare to key place ss]
theorem nxt_bare (ss:List Src) (to key:ByteArray) (place:Int):nxt ss to key place=nxt ((ss.map Src.pl).map bare) to key place:=fold_bare to key place ss none
theorem run_bare (ss:List Src) (to:ByteArray):∀ (k:Nat) (key:ByteArray) (place:Int),run ss to k key place=run ((ss.map Src.pl).map bare) to k key place
 | 0,_,_=>rfl
 | k+1,key,place=>by
  unfold run
  rw [<-nxt_bare]
  cases nxt ss to key place with
  | none=>rfl
  | some y=>show y :: run ss to k y.2.key y.1=_; rw [run_bare ss to k y.2.key y.1]
theorem nxt_empty {ss:List Src} (h:∀ s,s ∈ ss->s.O=[]) (to key:ByteArray) (place:Int):nxt ss to key place=none:=by
 cases e:nxt ss to key place with
 | none=>rfl
 | some y =>
  rcases nxt_from ss none e with h1 | ⟨s,hs,_,x,hx,_⟩
  ·cases h1
  ·rw [h s hs] at hx; cases hx

def mA:Rm:=Rm.new [] 16 100000 1000 0 []
def kW (k:UInt8):Wr:=⟨⟨#[k]⟩,false,Val.V0⟩
theorem mA_few:mA.Few:=⟨⟨by decide,fun _=>Nat.zero_le _⟩,by decide⟩
theorem mA_1:roomO (mA.com [kW 97,kW 99] 1).L 1=[kW 97,kW 99]:=by kernel_rfl
theorem mA_2:roomO (mA.com [kW 97,kW 98] 2).L 1=[kW 97,kW 98]:=by kernel_rfl
theorem mA_run:run [bare ([kW 97,kW 99],0),bare ([kW 97,kW 98],1)] ⟨#[]⟩ 9 ⟨#[]⟩ (-1)=[(0,kW 97),(1,kW 97),(1,kW 98),(0,kW 99)]:=by kernel_rfl
end Go.Proofs.YtoljhoabbaigdaaGreat

namespace Go.Proofs.YtoljhoabbaigdaaGreat
open Go.RowKit
attribute [local go_sem] Oper.semAt_some

theorem xSetting13 (w:World):Calls Tryz.prog 27 #[] w fun e w'=>e=.returned (.agg #[.slice none 0 0,.int .i64 16,.int .i64 100000,.int .i64 1000])∧Below w.heap.size w w':=by
 have B0:=qh ((Below.refl w.heap.size w).alloc (Nat.le_refl _) (.cells #[.slice none 0 0,.int .i64 16,.int .i64 100000,.int .i64 1000] 81))
 have R0:=qh (RowAt.new w [.slice none 0 0,.int .i64 16,.int .i64 100000,.int .i64 1000] 81)
 go_enter Tryz.func27,Tryz.ntmps27
 go_wp2_with fail
 refine bodyPost_ret (results_cell_oneW rfl _ _ w.heap.size _ [.slice none 0 0,.int .i64 16,.int .i64 100000,.int .i64 1000] _ rfl R0.out Tryz.underlying81 rfl (by kernel_rfl)) rfl ?_
 exact ⟨rfl,B0.out⟩

abbrev twoW (a b:UInt8):List Value:=[.string ⟨#[a]⟩,.bool false,.bool false,.string ⟨#[]⟩,.int .u64 0,.string ⟨#[b]⟩,.bool false,.bool false,.string ⟨#[]⟩,.int .u64 0]
theorem twoW_good {R:RelM} (X:RoomMe R) {w:World} {b:Nat} {F:Nat->Prop} {m:Rm} (h:R w b F m) (x y:UInt8) (ty:TypeId) :
  GoodW (w.alloc (.cells (twoW x y).toArray ty)) F (some ⟨w.heap.size,0,none⟩) [kW x,kW y]:=by
 have r:=RowAt.new w (twoW x y) ty
 have one:∀ z:Wr,z ∈ [kW x,kW y]->(z.val=Val.V0)∧z.key.size=1:=fun z hz=>by
  simp only [List.mem_cons,List.not_mem_nil,or_false] at hz
  rcases hz with rfl | rfl<;>exact ⟨rfl,rfl⟩
 refine ⟨fun _=>⟨w.heap.size,0,rfl,r.lt,fun j hj=>?_⟩,fun z hz=>?_,by simp,fun _ a e f=>?_,fun z hz=>?_⟩
 ·match j,hj with
  | 0,_=>exact ⟨r.cell 0,r.cell 1,r.cell 2,r.cell 3,r.cell 4⟩
  | 1,_=>exact ⟨r.cell 5,r.cell 6,r.cell 7,r.cell 8,r.cell 9⟩
 ·obtain ⟨e1,e2⟩:=one z hz
  rw [e1,e2]
  exact ⟨⟨by decide,by decide⟩,by decide⟩
 ·injection e with e
  subst e
  have:=X.lt h f
  simp at this
 ·obtain ⟨e1,e2⟩:=one z hz
  rw [e1,e2]
  exact ⟨by decide,by decide⟩
theorem twoSo (w:World) (b1 b2:Nat) (L1 L2:Ch) (ty:TypeId) :
  SlSo (w.alloc (.cells #[.pointer (some ⟨b1,0,none⟩),.int .i64 1,.int .i64 0,.pointer (some ⟨b2,0,none⟩),.int .i64 1,.int .i64 1] ty)) (some ⟨w.heap.size,0,none⟩) [⟨some ⟨b1,0,none⟩,L1,1,0⟩,⟨some ⟨b2,0,none⟩,L2,1,1⟩]:=fun _=>by
 have r:=RowAt.new w [.pointer (some ⟨b1,0,none⟩),.int .i64 1,.int .i64 0,.pointer (some ⟨b2,0,none⟩),.int .i64 1,.int .i64 1] ty
 refine ⟨w.heap.size,0,rfl,r.lt,fun j s hj=>?_⟩
 match j,hj with
 | 0,hj =>
  injection hj with hj; subst hj
  exact ⟨r.cell 0,r.cell 1,r.cell 2⟩
 | 1,hj =>
  injection hj with hj; subst hj
  exact ⟨r.cell 3,r.cell 4,r.cell 5⟩

theorem awakeStep {R:RelM} (X:RoomMe R) {w:World} {b1 b2:Nat} {F1 F2:Nat->Prop} {m1 m2:Rm} (h1:R w b1 F1 m1) (h2:R w b2 F2 m2) (e1:roomO m1.L 1=[kW 97,kW 99]) (e2:roomO m2.L 1=[kW 97,kW 98])
  (A:Option Addr) (c:Nat) (hs:SlSo w A [⟨some ⟨b1,0,none⟩,m1.L,1,0⟩,⟨some ⟨b2,0,none⟩,m2.L,1,1⟩]) :
  Calls Tryz.prog 12 #[.slice A 2 c,.agg #[.string ⟨#[]⟩,.string ⟨#[]⟩,.int .i64 9],.pointer none,.int .i64 (-1)] w fun e w' =>
   ∃ b,e=.returned (.tuple #[.pointer (some ⟨b,0,none⟩),.int .i64 0])∧Below w.heap.size w w' ∧
    Calls Tryz.prog 16 #[.pointer (some ⟨b,0,none⟩),.int .i64 9] w' fun e w''=>(∃ g cc,e=.returned (.tuple #[.slice (some ⟨g,0,none⟩) 4 cc,.bool true,.int .i64 0]) ∧
     w''.cell? ⟨g,5,none⟩=some (.int .i64 1)∧w''.cell? ⟨g,16,none⟩=some (.string ⟨#[99]⟩))∧Below w.heap.size w w'':=by
 let P:World->Prop:=fun W=>R W b1 F1 m1∧R W b2 F2 m2
 have kp:∀ W W',P W->(∀ k,k<W.heap.size->F1 k∨F2 k->W'.heap[k]?=W.heap[k]?)->W.heap.size<=W'.heap.size->P W':=fun W W' ⟨p1,p2⟩ hk hz =>
  ⟨X.keep p1 (fun k e=>hk k (X.lt p1 e) (.inl e)) hz,X.keep p2 (fun k e=>hk k (X.lt p2 e) (.inr e)) hz⟩
 have hP:KeptB P:=fun W W' p hb=>kp W W' p (fun k hk _=>hb.block k hk) hb.size
 have sok:∀ s,s ∈ ([⟨some ⟨b1,0,none⟩,m1.L,1,0⟩,⟨some ⟨b2,0,none⟩,m2.L,1,1⟩]:List So)->SoOk P s:=fun s hs=>by
  simp only [List.mem_cons,List.not_mem_nil,or_false] at hs
  rcases hs with rfl | rfl
  ·exact soOk X (fun W p=>p.1) (X.ok h1).L.rise _ rfl rfl
  ·exact soOk X (fun W p=>p.2) (X.ok h2).L.rise _ rfl rfl
 refine (xOpen hP (S:=[]) (sv:=.pointer none) (place:=-1) _ A c ⟨#[]⟩ ⟨#[]⟩ 9 w ⟨h1,h2⟩ hs (show (2:Nat)<=1000 by decide) sok (keysNil P) (by decide) (by decide) (by rfl) (by rfl) (by decide +kernel)).mono ?_
 rintro e w' ⟨b,ss,v,rfl,ho⟩
 refine ⟨b,rfl,ho.below,?_⟩
 have hpl:ss.map Src.pl=[([kW 97,kW 99],0),([kW 97,kW 98],1)]:=by
  rw [ho.pl]
  show [srcPl [] (-1) ⟨some ⟨b1,0,none⟩,m1.L,1,0⟩,srcPl [] (-1) ⟨some ⟨b2,0,none⟩,m2.L,1,1⟩]=_
  unfold srcPl
  rw [if_neg (show ¬ (0:Int)=-1 by decide),if_neg (show ¬ (1:Int)=-1 by decide)]
  show [(roomO m1.L 1,(0:Int)),(roomO m2.L 1,(1:Int))]=_
  rw [e1,e2]
 obtain ⟨A',c',rfl,hsl,_,hA'⟩:=ho.own.sl
 have hr':P w':=hP _ _ ⟨h1,h2⟩ ho.below
 have hkey:∀ s,s ∈ ss->∀ x,x ∈ s.O->x.key.size<=1000:=fun s hs' x hx=>by
  have hm:s.pl ∈ ss.map Src.pl:=List.mem_map_of_mem hs'
  rw [hpl] at hm
  simp only [List.mem_cons,List.not_mem_nil,or_false,Src.pl,Prod.mk.injEq] at hm
  rcases hm with ⟨e,_⟩ | ⟨e,_⟩<;>rw [e] at hx<;>simp only [List.mem_cons,List.not_mem_nil,or_false] at hx<;>rcases hx with rfl | rfl<;>decide
 have len:ss.length<=1000:=by
  have:=congrArg List.length hpl
  rw [List.length_map] at this
  rw [this]; decide
 refine (xStepM hP b (fun W W' p hc=>kp W W' p (fun k hk hf=>hc.block k hk (fun e=>by
  have:k<w.heap.size:=by
   rcases hf with hf | hf
   ·exact X.lt h1 hf
   ·exact X.lt h2 hf
  have:=ho.new
  omega)) hc.size) ss ⟨#[]⟩ 9 0 ⟨#[]⟩ (-1) A' c' w' 9 (by decide) (by decide) hr' ho.cur hsl ho.keys len (fun s hs' r hr2=>by have:=ho.apart s hs' r hr2; omega)
  (fun a e=>by obtain ⟨g,e2,hg⟩:=hA' a e; rw [e2]; show g≠b; omega) hkey (by decide) (by decide) (by decide)).mono ?_
 rintro e w'' ⟨L,v,key',place',hL,rfl,hO,_,_,hch⟩
 have hL2:L=[(0,kW 97),(1,kW 97),(1,kW 98),(0,kW 99)]:=by
  rw [hL,run_bare,hpl]
  exact mA_run
 subst hL2
 obtain ⟨A2,c2,rfl,hs2,hg2⟩:=hO.sl
 obtain ⟨g,rfl⟩:=hg2 (by decide)
 obtain ⟨_,_,e3,_,hc3⟩:=hs2 (by decide)
 injection e3 with e3
 injection e3 with e4 e5 _
 subst e4; subst e5
 refine ⟨⟨g,c2,rfl,?_,?_⟩,ho.below.trans (hch.below (fun k e=>by rw [e]; exact ho.new) ho.below.size)⟩
 ·exact (hc3 1 (by decide)).1
 ·exact (hc3 3 (by decide)).2.1
end Go.Proofs.YtoljhoabbaigdaaGreat

namespace Go.Proofs.YtoljhoabbaigdaaGreat
open Go.RowKit
attribute [local go_sem] Oper.semAt_some

theorem st13:stOk [] 16 100000 1000=true:=by kernel_rfl
theorem new13 {R:RelM} (X:RoomMe R) (w:World):Calls Tryz.prog 26 #[.agg #[.slice none 0 0,.int .i64 16,.int .i64 100000,.int .i64 1000]] w fun e w' =>
  ∃ b F,e=.returned (.tuple #[PtrM b,.int .i64 0])∧R w' b F mA∧(∀ k,F k->w.heap.size<=k)∧Below w.heap.size w w':=by
 refine (X.new none 0 [] 16 100000 1000 w (Sl.nil _ _) (by decide) (fun _ h=>by cases h)).mono ?_
 rintro e w' ⟨hb,⟨_,b,F,rfl,hr,hF⟩ | ⟨hf,_⟩⟩
 ·exact ⟨b,F,rfl,hr,hF,hb⟩
 ·rw [st13] at hf; cases hf

theorem awake13 {R:RelM} (X:RoomMe R) (w:World):Calls Tryz.prog 6 #[] w fun e w'=>e=.returned (.bool true)∧Below w.heap.size w w':=by
 have ST:=qh xSetting13
 have NW:=qh (new13 X)
 have HX:=qh X
 have CM:=qh (fun (W:World) (b:Nat) (F:Nat->Prop) (x y:UInt8) (st:Int) (h:R W b F mA) (h0:0<=st) (h1:st<=18446744073709551615) =>
  X.commit b F mA [kW x,kW y] (some ⟨W.heap.size,0,none⟩) 2 st (W.alloc (.cells (twoW x y).toArray 61)) (X.keep h (fun k e=>Below.heap_alloc _ _ _ (X.lt h e)) (by simp)) mA_few (twoW_good X h x y _) h0 h1)
 have AS:=qh (fun (W:World) (b1 b2:Nat) (F1 F2:Nat->Prop) (h1:R W b1 F1 (mA.com [kW 97,kW 99] 1)) (h2:R W b2 F2 (mA.com [kW 97,kW 98] 2)) =>
  awakeStep X (w:=W.alloc (.cells #[.pointer (some ⟨b1,0,none⟩),.int .i64 1,.int .i64 0,.pointer (some ⟨b2,0,none⟩),.int .i64 1,.int .i64 1] 71))
   (X.keep h1 (fun k e=>Below.heap_alloc _ _ _ (X.lt h1 e)) (by simp)) (X.keep h2 (fun k e=>Below.heap_alloc _ _ _ (X.lt h2 e)) (by simp)) mA_1 mA_2 (some ⟨W.heap.size,0,none⟩) 2 (twoSo W b1 b2 _ _ _))
 have B0:=qh (Below.refl w.heap.size w)
 clear X
 go_enter Tryz.func6,Tryz.ntmps6
 go_wp2_with fail
 refine (ST.out _).mono ?_
 rintro e w1 ⟨rfl,hb1⟩
 have B1:=qh (below_then B0.out hb1)
 clear hb1
 go_wp2_with fail
 refine (NW.out _).mono ?_
 rintro e w2 ⟨b1,F1,rfl,hr1,hF1,hb2⟩
 have B2:=qh (below_then B1.out hb2)
 have R1:=qh hr1
 have N1:=qh (show ∀ k,F1 k->w.heap.size<=k from fun k e=>Nat.le_trans B1.out.size (hF1 k e))
 clear hb2 hr1 hF1
 go_wp2_with fail
 refine (ST.out _).mono ?_
 rintro e w3 ⟨rfl,hb3⟩
 have B3:=qh (below_then B2.out hb3)
 have R13:=qh (HX.out.keep R1.out (fun k e=>hb3.block k (HX.out.lt R1.out e)) hb3.size)
 have L1:=qh (show ∀ k,F1 k->k<w3.heap.size from fun k e=>HX.out.lt R13.out e)
 clear hb3
 go_wp2_with fail
 refine (NW.out _).mono ?_
 rintro e w4 ⟨b2,F2,rfl,hr2,hF2,hb4⟩
 have B4:=qh (below_then B3.out hb4)
 have R2:=qh hr2
 have N2:=qh (show ∀ k,F2 k->w3.heap.size<=k from hF2)
 have R14:=qh (HX.out.keep R13.out (fun k e=>hb4.block k (HX.out.lt R13.out e)) hb4.size)
 have S3:=qh B3.out.size
 clear hb4 hr2 hF2
 have C1:=qh (CM.out w4 b1 F1 97 99 1 R14.out (by decide) (by decide))
 go_wp2_with fail
 refine C1.out.mono ?_
 rintro e w5 ⟨rfl,hc5,F1',hr5,hF5⟩
 have SW4:=qh B4.out.size
 have R15:=qh hr5
 have R25:=qh (HX.out.keep R2.out (fun k e=>(hc5.block k (Nat.lt_of_lt_of_le (HX.out.lt R2.out e) (by simp)) (fun z=>by have h1:=L1.out k z; have h2:=N2.out k e; omega)).trans (Below.heap_alloc _ _ _ (HX.out.lt R2.out e))) (Nat.le_trans (by simp) hc5.size))
 have D1:=qh (show ∀ k,F1' k->¬ F2 k from fun k e z=>by
  rcases hF5 k e with q | q
  ·have h1:=L1.out k q; have h2:=N2.out k z; omega
  ·have h2:=HX.out.lt R2.out z; simp at q; omega)
 have N15:=qh (show ∀ k,F1' k->w.heap.size<=k from fun k e=>by
  rcases hF5 k e with q | q
  ·exact N1.out k q
  ·have:=SW4.out; simp at q; omega)
 have B5:=qh (show Below w.heap.size w w5 from (B4.out.alloc B4.out.size (.cells (twoW 97 99).toArray 61)).trans (hc5.below (fun k e=>N1.out k e) (by have:=SW4.out; simp; omega)))
 clear hc5 hr5 hF5 C1
 have C2:=qh (CM.out w5 b2 F2 97 98 2 R25.out (by decide) (by decide))
 go_wp2_with fail
 refine C2.out.mono ?_
 rintro e w6 ⟨rfl,hc6,F2',hr6,hF6⟩
 have SW5:=qh B5.out.size
 have R26:=qh hr6
 have R16:=qh (HX.out.keep R15.out (fun k e=>(hc6.block k (Nat.lt_of_lt_of_le (HX.out.lt R15.out e) (by simp)) (fun z=>D1.out k e z)).trans (Below.heap_alloc _ _ _ (HX.out.lt R15.out e))) (Nat.le_trans (by simp) hc6.size))
 have B6:=qh (show Below w.heap.size w w6 from (B5.out.alloc B5.out.size (.cells (twoW 97 98).toArray 61)).trans (hc6.below (fun k e=>by have:=N2.out k e; have:=S3.out; omega) (by have:=SW5.out; simp; omega)))
 clear hc6 hr6 hF6 C2
 have A6:=qh (AS.out w6 b1 b2 F1' F2' R16.out R26.out)
 have BA6:=qh (B6.out.alloc B6.out.size (.cells #[.pointer (some ⟨b1,0,none⟩),.int .i64 1,.int .i64 0,.pointer (some ⟨b2,0,none⟩),.int .i64 1,.int .i64 1] 71))
 clear AS CM
 go_wp2_with fail
 refine A6.out.mono ?_
 rintro e w7 ⟨b,rfl,hb7,st⟩
 have ST7:=qh st
 have SW6:=qh B6.out.size
 clear hb7 st
 go_wp2_with fail
 refine ST7.out.mono ?_
 rintro e w8 ⟨⟨g,cc,rfl,k5,k16⟩,hb8⟩
 have B8:=qh (show Below w.heap.size w w8 from BA6.out.trans (hb8.mono (by have:=SW6.out; simp; omega)))
 clear hb8
 go_wp2_with fail
 go_ret
 exact ⟨rfl,B8.out⟩

end Go.Proofs.YtoljhoabbaigdaaGreat

namespace Go.Proofs.YtoljhoabbaigdaaGreat
open Go.RowKit
attribute [local go_sem] Oper.semAt_some

def So.cs (s:So):List Value:=[.pointer s.rp,.int .i64 s.sq,.int .i64 s.p]
theorem infoSo:(Tryz.prog.info? 71).map (fun i=>(i.zero,i.size,i.bytes))=some (some (.agg #[.pointer none,.int .i64 0,.int .i64 0]),3,24):=by kernel_rfl
def socs (l:List So):List Value:=l.flatMap So.cs
def OwnSo (w:World) (B:Nat) (v:Value) (l:List So):Prop:=w.ownsRow B 71 3 v l.length (socs l)
section
variable {w w':World} {B:Nat} {v:Value} {l:List So}
theorem OwnSo.nil (w:World) (B:Nat):OwnSo w B (.slice none 0 0) []:=World.ownsRow_nil _ _ _ _
theorem OwnSo.sl (h:OwnSo w B v l):∃ A c,v=.slice A l.length c∧SlSo w A l∧l.length<=c∧(∀ a,A=some a->∃ g,a=⟨g,0,none⟩∧B<=g):=by
 have h1:=h
 unfold OwnSo at h1
 rcases h.2 with ⟨rfl,h0⟩ | ⟨g,cap,cur,rfl,hB,hg,hc,_⟩
 ·exact ⟨none,0,by rw [h0],fun hp=>by omega,by omega,fun a e=>by cases e⟩
 ·refine ⟨_,cap,rfl,fun hp=>⟨g,0,rfl,(Array.getElem?_eq_some_iff.1 hg).1,fun j s hj=>?_⟩,hc,fun a e=>by injection e with e; exact ⟨g,e.symm,hB⟩⟩
  obtain ⟨hj1,hj2⟩:=List.getElem?_eq_some_iff.1 hj
  have at_:∀ i,i<3->w.cell? ⟨g,j * 3+i,none⟩=s.cs[i]?:=fun i hi=>by
   rw [h1.cellAt (j * 3+i) (by omega),<-hj2]
   exact flat_at (f:=So.cs) (n:=3) (fun _=>rfl) l j i hj1 hi
  rw [Nat.zero_add]
  exact ⟨at_ 0 (by decide),at_ 1 (by decide),at_ 2 (by decide)⟩
theorem OwnSo.below (h:OwnSo w B v l) (hb:Below w.heap.size w w'):OwnSo w' B v l:=by
 rcases h with ⟨h1,h2⟩
 refine ⟨h1,?_⟩
 rcases h2 with ⟨rfl,h0⟩ | ⟨g,cap,cur,rfl,hB,hg,r⟩
 ·exact .inl ⟨rfl,h0⟩
 ·refine .inr ⟨g,cap,cur,rfl,hB,?_,r⟩
  have hl:g<w.heap.size:=(Array.getElem?_eq_some_iff.1 hg).1
  rw [hb.block g hl]; exact hg
theorem OwnSo.alloc (h:OwnSo w B v l) (o:Obj):OwnSo (w.alloc o) B v l:=World.ownsRow.alloc h o
theorem OwnSo.lt (h:OwnSo w B v l):∀ k,v.ownBlock=some k->B<=k∧k<w.heap.size:=World.ownsRow.lt h
end
theorem wp_putSo {w:World} {B:Nat} {ops:Array Oper} {rest:List Oper} {o:Oper} {a:Act} {Q:Exit->Act->World->Prop} (hgd:o.guard=none) (s x:Operand)
  (ho:o.op=.call { callee:=.builtin .append,args:=#[s,x],argTypes:=#[35,35] })
  (v:Value) (l:List So) (hs:a.eval s=v) (hown:OwnSo w B v l) (hB:B<=w.heap.size) (g:Nat) (y:So) (hx:a.eval x=.slice (some ⟨g,0,none⟩) 1 1)
  (hc:∀ i,i<3->w.cell? ⟨g,i,none⟩=y.cs[i]?) (hl:l.length<=1000000)
  (h:∀ v' w',OwnSo w' B v' (l++[y])->w.grownBy w' v.ownBlock->wpList Tryz.prog ops Q rest (a.put o.dst v') w'):wpList Tryz.prog ops Q (o :: rest) a w:=by
 obtain ⟨i0,hi,hz0,hz1,hz2⟩:=info_parts infoSo
 refine wpList_append_own_at w hgd s x 35 ho B 71 i0 _ 3 24 Tryz.underlying35 hi hz0 hz1 hz2 rfl (by decide) v l.length _ hs hown ⟨g,0,none⟩ 1 1 y.cs hx rfl ?_ ?_
  (by unfold maxLen; omega) (by omega) hB ?_
 ·intro j u hj
  have hj3:j<3:=(List.getElem?_eq_some_iff.1 hj).1
  rw [show (⟨g,0,none⟩:Addr).add j=⟨g,j,none⟩ by simp [Addr.add]; omega,hc j hj3,hj]
 ·intro u hu
  unfold So.cs at hu
  simp at hu
  rcases hu with rfl | rfl | rfl<;>rfl
 ·intro v' w' h1 h2 _ _
  refine h v' w' ?_ h2
  have e:socs l++y.cs=socs (l++[y]):=by unfold socs; simp
  rw [e] at h1
  unfold OwnSo
  rw [List.length_append]
  exact h1


theorem xOpenNil (l:List So) (A:Option Addr) (c:Nat) (frm to:ByteArray) (limit:Int) (sv:Value) (place:Int) (w:World) (h:SlSo w A l) (hl:l.length<=1000) (g1:(l.all fun s=>s.rp.isSome)=false) :
  Calls Tryz.prog 12 #[.slice A l.length c,.agg #[.string frm,.string to,.int .i64 limit],sv,.int .i64 place] w fun e w'=>e=.returned (.tuple #[.pointer none,.int .i64 2])∧Below w.heap.size w w':=by
 have b0:Below w.heap.size w (w.alloc (.cells #[.string frm,.string to,.int .i64 limit] 25)):=(Below.refl _ _).alloc (Nat.le_refl _) _
 have XT:=qh (xAllThere l A c _ (h.below b0) hl)
 rw [g1] at XT
 have B0:=qh b0
 obtain ⟨n,hn⟩:=nmq (l.length)
 rw [<-hn] at XT ⊢
 clear b0 h hl g1 hn
 go_enter Tryz.func12,Tryz.ntmps12
 go_wp2_with fail
 refine XT.out.mono ?_
 rintro e w1 ⟨rfl,hb1⟩
 have B1:=qh (below_then B0.out hb1)
 clear hb1
 go_wp2_with fail
 go_ret2
 exact ⟨rfl,B1.out⟩
theorem xOpenArg (l:List So) (A:Option Addr) (c:Nat) (frm to:ByteArray) (limit:Int) (sv:Value) (place:Int) (w:World) (h:SlSo w A l) (hl:l.length<=1000) (g1:(l.all fun s=>s.rp.isSome)=true) (g2:(riseF (-1) l && rgOk frm to limit)=false) :
  Calls Tryz.prog 12 #[.slice A l.length c,.agg #[.string frm,.string to,.int .i64 limit],sv,.int .i64 place] w fun e w'=>e=.returned (.tuple #[.pointer none,.int .i64 1])∧Below w.heap.size w w':=by
 obtain ⟨W0,hW0⟩:=nmq (w.alloc (.cells #[.string frm,.string to,.int .i64 limit] 25))
 have b0:Below w.heap.size w W0:=by rw [hW0]; exact (Below.refl _ _).alloc (Nat.le_refl _) _
 have R0:RowAt W0 w.heap.size [.string frm,.string to,.int .i64 limit] 25:=by rw [hW0]; exact RowAt.new _ _ _
 have XT:=qh (xAllThere l A c _ (h.below b0) hl)
 have XR:=qh (fun W (hb:Below w.heap.size w W)=>xRiseM l A c W (h.below hb) hl)
 have XG:=qh (xRightMg frm to limit)
 rw [g1] at XT
 have B0:=qh b0
 have HR0:=qh R0
 have HW0:=qh (show w.alloc (.cells #[.string frm,.string to,.int .i64 limit] 25)=W0 from hW0.symm)
 obtain ⟨B,hB⟩:=nmq (w.heap.size)
 rw [<-hB] at HR0
 have HB:=qh hB
 obtain ⟨n,hn⟩:=nmq (l.length)
 rw [<-hn] at XT XR ⊢
 clear b0 h hl g1 hn R0 hW0 hB
 cases hr:riseF (-1) l with
 | false =>
  rw [hr] at XR
  clear g2 hr
  go_enter Tryz.func12,Tryz.ntmps12
  go_wp2_with fail
  rw [HW0.out,<-HB.out]
  refine XT.out.mono ?_
  rintro e w1 ⟨rfl,hb1⟩
  have B1:=qh (below_then B0.out hb1)
  clear hb1
  go_wp2_with fail
  refine (XR.out _ B1.out).mono ?_
  rintro e w2 ⟨rfl,hb2⟩
  have B2:=qh (below_then B1.out hb2)
  clear hb2
  go_wp2_with fail
  go_ret2
  exact ⟨rfl,B2.out⟩
 | true =>
  rw [hr,Bool.true_and] at g2
  rw [hr] at XR
  rw [g2] at XG
  clear g2 hr
  go_enter Tryz.func12,Tryz.ntmps12
  go_wp2_with fail
  rw [HW0.out,<-HB.out]
  refine XT.out.mono ?_
  rintro e w1 ⟨rfl,hb1⟩
  have R1:=qh (HR0.out.below hb1)
  have B1:=qh (below_then B0.out hb1)
  clear hb1
  go_wp2_with fail
  refine (XR.out _ B1.out).mono ?_
  rintro e w2 ⟨rfl,hb2⟩
  have R2:=R1.out.below hb2
  have y0:=R2.cell 0
  have y1:=R2.cell 1
  have y2:=R2.cell 2
  simp only [geS] at y0 y1 y2
  have B2:=qh (below_then B1.out hb2)
  clear hb2 R2
  go_wp2_with fail
  refine (XG.out _).mono ?_
  rintro e w3 ⟨rfl,hb3⟩
  have B3:=qh (below_then B2.out hb3)
  clear hb3
  go_wp2_with fail
  go_ret2
  exact ⟨rfl,B3.out⟩

end Go.Proofs.YtoljhoabbaigdaaGreat

namespace Go.Proofs.YtoljhoabbaigdaaGreat
open Go.RowKit
attribute [local go_sem] Oper.semAt_some

def SlI (w:World) (A:Option Addr) (zs:List Int):Prop :=
 0<zs.length->∃ b o,A=some ⟨b,o,none⟩∧b<w.heap.size∧∀ j,j<zs.length->w.cell? ⟨b,o+j,none⟩=some (.int .i64 (zs.getD j 0))
theorem SlI.below {w w':World} {B:Nat} {A:Option Addr} {zs:List Int} (h:SlI w A zs) (hb:Below B w w') (hB:∀ b o,A=some ⟨b,o,none⟩->b<w.heap.size->b<B):SlI w' A zs:=fun hp=>by
 obtain ⟨b,o,e,hl,hc⟩:=h hp
 refine ⟨b,o,e,Nat.lt_of_lt_of_le hl hb.size,fun j hj=>?_⟩
 have e2:w'.cell? ⟨b,o+j,none⟩=w.cell? ⟨b,o+j,none⟩:=by
  unfold World.cell?; rw [hb.block b (hB b o e hl)]
 exact e2.trans (hc j hj)
def mkSo (b:Nat) (zs:List Int):List So:=zs.map fun z=>⟨some ⟨b,0,none⟩,[],0,z⟩
theorem mkSo_snoc (b:Nat) {zs:List Int} {i:Nat} (hi:i<zs.length):mkSo b (zs.take (i+1))=mkSo b (zs.take i)++[⟨some ⟨b,0,none⟩,[],0,zs.getD i 0⟩]:=by
 unfold mkSo
 rw [List.take_add_one,List.getElem?_eq_getElem hi,Option.toList_some,List.map_append,List.getD_eq_getElem?_getD,List.getElem?_eq_getElem hi]
 rfl
def lastP:Int->List So->Int
 | a,[]=>a
 | _,s :: l=>lastP s.p l
theorem riseF_snoc:∀ (l:List So) (a:Int) (s:So),riseF a (l++[s])=(riseF a l && decide (lastP a l<s.p))
 | [],a,s=>by
  show (decide (a<s.p) && true)=(true && decide (a<s.p))
  rw [Bool.and_true,Bool.true_and]
 | x :: l,a,s=>by
  rw [List.cons_append,riseF,riseF,riseF_snoc l x.p s,Bool.and_assoc]; rfl
theorem riseF_last:∀ (l:List So) (a:Int),riseF a l=true->a<=lastP a l
 | [],_,_=>Int.le_refl _
 | x :: l,a,h=>by
  rw [riseF,Bool.and_eq_true] at h
  have:=riseF_last l x.p h.2
  have h1:a<x.p:=by simpa using h.1
  show a<=lastP x.p l
  omega
theorem lastP_snoc:∀ (l:List So) (a:Int) (s:So),lastP a (l++[s])=s.p
 | [],_,_=>rfl
 | x :: l,a,s=>by rw [List.cons_append]; exact lastP_snoc l x.p s
def rz (b:Nat) (zs:List Int) (i:Nat):Bool:=riseF (-1) (mkSo b (zs.take i))
theorem rz_step (b:Nat) {zs:List Int} {i:Nat} (hi:i<zs.length) :
  rz b zs (i+1)=(rz b zs i && (decide (0<=zs.getD i 0) && (decide (i=0) || decide (zs.getD (i-1) 0<zs.getD i 0)))):=by
 unfold rz
 rw [mkSo_snoc b hi,riseF_snoc]
 cases i with
 | zero =>
  show (true && decide ((-1:Int)<zs.getD 0 0))=(true && (decide (0<=zs.getD 0 0) && (true || decide (zs.getD (0-1) 0<zs.getD 0 0))))
  rw [Bool.true_or,Bool.and_true,Bool.true_and,Bool.true_and,decide_eq_decide]
  omega
 | succ i =>
  have e:lastP (-1) (mkSo b (zs.take (i+1)))=zs.getD i 0:=by
   rw [mkSo_snoc b (by omega),lastP_snoc]
  rw [e,Nat.add_sub_cancel,decide_eq_false (show ¬ i+1=0 by omega),Bool.false_or]
  cases h:riseF (-1) (mkSo b (zs.take (i+1))) with
  | false=>rfl
  | true =>
   have h2:=riseF_last _ _ h
   rw [e] at h2
   have h3:0<=zs.getD i 0:=by
    rw [mkSo_snoc b (show i<zs.length by omega),riseF_snoc,Bool.and_eq_true] at h
    have h4:=riseF_last _ _ h.1
    have h5:lastP (-1) (mkSo b (zs.take i))<zs.getD i 0:=by simpa using h.2
    omega
   rw [Bool.true_and,Bool.true_and,<-Bool.decide_and,decide_eq_decide]
   show zs.getD i 0<zs.getD (i+1) 0↔_
   omega

theorem rRightMg (frm to:ByteArray) (limit:Int) (w:World):Calls Tryz.prog 14 #[.agg #[.string frm,.string to,.int .i64 limit]] w fun e w'=>e=.returned (.bool (rgOk frm to limit))∧Below w.heap.size w w':=by
 have B0:=qh ((Below.refl w.heap.size w).alloc (Nat.le_refl _) (.cells #[.string frm,.string to,.int .i64 limit] 25))
 have ER:rgOk frm to limit=(decide (1<=limit) && (decide (limit<=64) && (to.toList.isEmpty || Op.bytesLess frm.toList to.toList))):=rfl
 have HR:=qh ER
 clear ER
 by_cases p1:1<=limit
 ·by_cases p2:limit<=64
  ·cases he:to.toList.isEmpty with
   | true =>
    have e2:(to.toList == [])=true:=by simpa using he
    have e3:to.toList=[]:=by simpa using he
    go_enter Tryz.func14,Tryz.ntmps14
    go_wp2_with fail
    go_ret
    exact ⟨ret_bool (by rw [HR.out,decide_eq_true p1,decide_eq_true p2,he]; rfl),B0.out⟩
   | false =>
    have e2:(to.toList == [])=false:=by
     cases hq:to.toList with
     | nil=>rw [hq] at he; cases he
     | cons a b=>rfl
    have e3:¬ to.toList=[]:=fun z=>by rw [z] at he; cases he
    cases hl:Op.bytesLess frm.toList to.toList with
    | true =>
     go_enter Tryz.func14,Tryz.ntmps14
     go_wp2_with fail
     go_ret
     exact ⟨ret_bool (by rw [HR.out,decide_eq_true p1,decide_eq_true p2,he,hl]; first | rfl | simp),B0.out⟩
    | false =>
     go_enter Tryz.func14,Tryz.ntmps14
     go_wp2_with fail
     go_ret
     exact ⟨ret_bool (by rw [HR.out,decide_eq_true p1,decide_eq_true p2,he,hl]; first | rfl | simp),B0.out⟩
  ·have p3:¬ limit<=64:=p2
   go_enter Tryz.func14,Tryz.ntmps14
   go_wp2_with fail
   go_ret
   exact ⟨ret_bool (by rw [HR.out,decide_eq_false (show ¬ limit<=64 by omega)]; simp),B0.out⟩
 ·go_enter Tryz.func14,Tryz.ntmps14
  go_wp2_with fail
  go_ret
  exact ⟨ret_bool (by rw [HR.out,decide_eq_false (show ¬ 1<=limit by omega)]; rfl),B0.out⟩
end Go.Proofs.YtoljhoabbaigdaaGreat

namespace Go.Proofs.YtoljhoabbaigdaaGreat.mergeNil
open Go.Proofs.YtoljhoabbaigdaaGreat Go.RowKit
attribute [local go_sem] Oper.semAt_some

theorem ownSo_made (w:World) {B:Nat} (hB:B<=w.heap.size):OwnSo (w.alloc (.cells #[] 71)) B (.slice (some ⟨w.heap.size,0,none⟩) 0 0) [] :=
 World.ownsRow_made w #[] 0 hB (Nat.zero_le _) (by simp)
theorem OwnSo.chg {w w':World} {B:Nat} {v:Value} {l:List So} {F:Nat->Prop} (h:OwnSo w B v l) (hc:Chg F w w') (hn:∀ k,B<=k->¬ F k):OwnSo w' B v l:=by
 rcases h with ⟨h1,h2⟩
 refine ⟨h1,?_⟩
 rcases h2 with ⟨rfl,h0⟩ | ⟨g,cap,cur,rfl,hB,hg,r⟩
 ·exact .inl ⟨rfl,h0⟩
 ·refine .inr ⟨g,cap,cur,rfl,hB,?_,r⟩
  have hl:g<w.heap.size:=(Array.getElem?_eq_some_iff.1 hg).1
  rw [hc.block g hl (hn g hB)]; exact hg
theorem step_putSo {ops:Array Oper} {o:Oper} {a:Act} {w:World} {K:Act->World->Prop} {Q:Exit->Act->World->Prop} {E:Prop}
  (hg:o.guard=none) (s x:Operand) (hop:o.op=.call { callee:=.builtin .append,args:=#[s,x],argTypes:=#[35,35] })
  (B:Nat) (v:Value) (l:List So) (hs:a.eval s=v) (hown:OwnSo w B v l) (g:Nat) (y:So) (hx:a.eval x=.slice (some ⟨g,0,none⟩) 1 1) (hc:∀ i,i<3->w.cell? ⟨g,i,none⟩=y.cs[i]?)
  (hl:l.length<=1000000) (hB:B<=w.heap.size)
  (hK:∀ v' w',OwnSo w' B v' (l++[y])->w.grownBy w' v.ownBlock->(v'.ownBlock=v.ownBlock∨v'.ownBlock=some w.heap.size)->K (a.put o.dst v') w') :
  if Region.wanted o (yielded ops a.tmps)=true then Oper.wp Tryz.prog o a w K Q else E:=by
 have hw:Region.wanted o (yielded ops a.tmps)=true:=by simp [Region.wanted,hg]
 rw [if_pos hw]
 obtain ⟨i0,hi,hz0,hz1,hz2⟩:=info_parts infoSo
 obtain ⟨v',w',hr,h2,h3,_,h5⟩:=run_append_own_at (P:=Tryz.prog) w B 35 o.type 71 i0 _ 3 24 Tryz.underlying35 hi hz0 hz1 hz2 rfl (by decide) v l.length _ hown ⟨g,0,none⟩ 1 1 y.cs rfl
  (fun j u hj=>by
   have hj3:j<3:=(List.getElem?_eq_some_iff.1 hj).1
   rw [show (⟨g,0,none⟩:Addr).add j=⟨g,j,none⟩ by simp [Addr.add]; omega,hc j hj3,hj])
  (fun u hu=>by
   unfold So.cs at hu
   simp at hu
   rcases hu with rfl | rfl | rfl<;>rfl) (by unfold maxLen; omega) (by omega) hB
 unfold Oper.wp execOp
 simp only [hop,resolve,invoke,builtin,Sem.run_bind,Sem.run_pure,Result.andThen_ok,List.map_toArray,List.map_cons,List.map_nil,hs,hx,hr]
 refine hK _ _ ?_ h3 h5
 have e:socs l++y.cs=socs (l++[y]):=by unfold socs; simp
 rw [e] at h2
 unfold OwnSo
 rw [List.length_append]
 exact h2
theorem walk {R:RelM} (X:RoomMe R) (n:Int) (n1:-9223372036854775808<=n) (n2:n<=9223372036854775807) (zs:List Int) (A:Option Addr) (c:Nat) (frm to:ByteArray) (limit:Int) (x:Val) (w:World) (hs:SlI w A zs) (hl:zs.length<=9223372036854775807) (hx:x.Fits) :
  Calls Tryz.prog 5 #[.int .i64 n,.slice A zs.length c,.agg #[.string frm,.string to,.int .i64 limit],x.v] w fun e w'=>e=.returned (.bool true)∧Below w.heap.size w w':=by
 obtain ⟨W0,hW0⟩:=nmq ((w.alloc (.cells #[.string frm,.string to,.int .i64 limit] 25)).alloc (.cells #[.bool x.num,.string x.txt,.int .u64 (x.bits:Int)] 59))
 have z1:(w.alloc (.cells #[.string frm,.string to,.int .i64 limit] 25)).heap.size=w.heap.size+1:=by show (w.heap.push _).size=_; rw [Array.size_push]
 have b0:Below w.heap.size w W0:=by rw [hW0]; exact ((Below.refl _ _).alloc (Nat.le_refl _) _).alloc (by rw [z1]; omega) _
 have R6:RowAt W0 w.heap.size [.string frm,.string to,.int .i64 limit] 25:=by rw [hW0]; exact (RowAt.new w _ _).alloc _
 have R7:RowAt W0 (w.heap.size+1) [.bool x.num,.string x.txt,.int .u64 (x.bits:Int)] 59:=by rw [hW0,<-z1]; exact RowAt.new _ _ _
 have B0:=qh b0
 have R6:=qh R6
 have R7:=qh R7
 have AW:=qh (awake13 X W0)
 have VR:=qh (fun W=>vrRight x W hx)
 obtain ⟨k,hk⟩:=nmq (zs.length)
 rw [<-hk] at hl ⊢
 obtain ⟨nu,tx,bt⟩:=x
 simp only at R7 hW0
 have HW0:=qh (show (w.alloc (.cells #[.string frm,.string to,.int .i64 limit] 25)).alloc (.cells #[.bool nu,.string tx,.int .u64 (bt:Int)] 59)=W0 from hW0.symm)
 show Calls Tryz.prog 5 #[.int .i64 n,.slice A k c,.agg #[.string frm,.string to,.int .i64 limit],.agg #[.bool nu,.string tx,.int .u64 (bt:Int)]] w fun e w'=>e=.returned (.bool true)∧Below w.heap.size w w'
 replace VR:Hid (∀ W,Calls Tryz.prog 25 #[.agg #[.bool nu,.string tx,.int .u64 (bt:Int)]] W fun e w'=>e=.returned (.bool (⟨nu,tx,bt⟩:Val).ok)∧Below W.heap.size W w'):=VR
 have HK:=qh hk
 have HS:=qh hs
 clear hW0 z1 b0 hx hk hs
 by_cases q1:20<k
 ·skip
  go_enter Tryz.func5,Tryz.ntmps5
  go_wp2_with fail
  rw [HW0.out]
  refine AW.out.mono ?_
  rintro e w1 ⟨rfl,hb1⟩
  have B1:=qh (B0.out.trans (hb1.mono B0.out.size))
  have BX1:=qh hb1
  have y0:=(R6.out.below hb1).cell 0
  have y1:=(R6.out.below hb1).cell 1
  have v0:=(R7.out.below hb1).cell 0
  have v1:=(R7.out.below hb1).cell 1
  have v2:=(R7.out.below hb1).cell 2
  simp only [geS] at y0 y1 v0 v1 v2
  clear hb1
  go_wp2_with fail
  go_ret
  exact ⟨rfl,B1.out⟩
 by_cases q2:200<frm.size
 ·skip
  go_enter Tryz.func5,Tryz.ntmps5
  go_wp2_with fail
  rw [HW0.out]
  refine AW.out.mono ?_
  rintro e w1 ⟨rfl,hb1⟩
  have B1:=qh (B0.out.trans (hb1.mono B0.out.size))
  have BX1:=qh hb1
  have y0:=(R6.out.below hb1).cell 0
  have y1:=(R6.out.below hb1).cell 1
  have v0:=(R7.out.below hb1).cell 0
  have v1:=(R7.out.below hb1).cell 1
  have v2:=(R7.out.below hb1).cell 2
  simp only [geS] at y0 y1 v0 v1 v2
  clear hb1
  go_wp2_with fail
  go_ret
  exact ⟨rfl,B1.out⟩
 by_cases q3:200<to.size
 ·skip
  go_enter Tryz.func5,Tryz.ntmps5
  go_wp2_with fail
  rw [HW0.out]
  refine AW.out.mono ?_
  rintro e w1 ⟨rfl,hb1⟩
  have B1:=qh (B0.out.trans (hb1.mono B0.out.size))
  have BX1:=qh hb1
  have y0:=(R6.out.below hb1).cell 0
  have y1:=(R6.out.below hb1).cell 1
  have v0:=(R7.out.below hb1).cell 0
  have v1:=(R7.out.below hb1).cell 1
  have v2:=(R7.out.below hb1).cell 2
  simp only [geS] at y0 y1 v0 v1 v2
  clear hb1
  go_wp2_with fail
  go_ret
  exact ⟨rfl,B1.out⟩
 cases q4:(⟨nu,tx,bt⟩:Val).ok with
 | false =>
  rw [q4] at VR
  go_enter Tryz.func5,Tryz.ntmps5
  go_wp2_with fail
  rw [HW0.out]
  refine AW.out.mono ?_
  rintro e w1 ⟨rfl,hb1⟩
  have B1:=qh (B0.out.trans (hb1.mono B0.out.size))
  have BX1:=qh hb1
  have y0:=(R6.out.below hb1).cell 0
  have y1:=(R6.out.below hb1).cell 1
  have v0:=(R7.out.below hb1).cell 0
  have v1:=(R7.out.below hb1).cell 1
  have v2:=(R7.out.below hb1).cell 2
  simp only [geS] at y0 y1 v0 v1 v2
  clear hb1
  go_wp2_with fail
  refine (VR.out _).mono ?_
  rintro e w2 ⟨rfl,hb2⟩
  have B2:=qh (below_then B1.out hb2)
  have BX2:=qh (below_then BX1.out hb2)
  clear hb2
  go_wp2_with fail
  go_ret
  exact ⟨rfl,B2.out⟩
 | true =>
  rw [q4] at VR
  have HX:=qh X
  have NW:=qh (new13 X)
  have HQ:=qh (And.intro q2 q3)
  clear hl X
  have K20:k<=20:=by omega
  go_enter Tryz.func5,Tryz.ntmps5
  go_wp2_with fail
  rw [HW0.out]
  refine AW.out.mono ?_
  rintro e w1 ⟨rfl,hb1⟩
  have B1:=qh (B0.out.trans (hb1.mono B0.out.size))
  have BX1:=qh hb1
  have y0:=(R6.out.below hb1).cell 0
  have y1:=(R6.out.below hb1).cell 1
  have v0:=(R7.out.below hb1).cell 0
  have v1:=(R7.out.below hb1).cell 1
  have v2:=(R7.out.below hb1).cell 2
  simp only [geS] at y0 y1 v0 v1 v2
  clear hb1
  go_wp2_with fail
  refine (VR.out _).mono ?_
  rintro e w2 ⟨rfl,hb2⟩
  have B2:=qh (below_then B1.out hb2)
  have BX2:=qh (below_then BX1.out hb2)
  clear hb2 y0 y1 v0 v1 v2 q2 q3
  go_wp2_with fail
  refine (xStepNil n _).mono ?_
  rintro e w3 ⟨rfl,hb3⟩
  have B3:=qh (below_then B2.out hb3)
  have BX3:=qh (below_then BX2.out hb3)
  clear hb3
  go_wp2_with fail
  refine (xSetting13 _).mono ?_
  rintro e w4 ⟨rfl,hb4⟩
  have B4:=qh (below_then B3.out hb4)
  have BX4:=qh (below_then BX3.out hb4)
  clear hb4
  go_wp2_with fail
  refine (NW.out _).mono ?_
  rintro e w5 ⟨b1,F,rfl,hr5,hF5,hb5⟩
  have B5:=qh (below_then B4.out hb5)
  have BX5:=qh (below_then BX4.out hb5)
  have R5:=qh hr5
  clear hb5 hr5 hF5
  go_wp2_with fail
  obtain ⟨Z,hZ⟩:=nmq (w5.heap.size)
  have O0:=qh (show OwnSo (w5.alloc (.cells #[] 71)) Z (.slice (some ⟨w5.heap.size,0,none⟩) 0 0) [] from ownSo_made w5 (by omega))
  have BZ:=qh (show Below Z w5 (w5.alloc (.cells #[] 71)) from (Below.refl Z w5).alloc (by omega) _)
  have XI:=qh (fun (W:World) (hW:Below Z w5 W) (j:Nat) (hj:j<k)=>show ∃ b o,A=some ⟨b,o,none⟩∧W.cell? ⟨b,o+j,none⟩=some (.int .i64 (zs.getD j 0)) from by
   have h1:SlI w5 A zs:=HS.out.below B5.out (fun b o e h=>h)
   have h2:SlI W A zs:=h1.below hW (fun b o e h=>by omega)
   obtain ⟨b,o,e,_,hc⟩:=h2 (by have:=HK.out; omega)
   exact ⟨b,o,e,hc j (by have:=HK.out; omega)⟩)
  have HZ:=qh hZ
  have RZ:=qh (fun i (hi:i<k)=>rz_step b1 (zs:=zs) (i:=i) (by have:=HK.out; omega))
  have MK:=qh (fun i (hi:i<k)=>mkSo_snoc b1 (zs:=zs) (i:=i) (by have:=HK.out; omega))
  clear hZ
  go_loopw [15,16,17] (fun vs vr vi wr=>∃ i:Nat,i<=k∧vr=.bool (rz b1 zs i)∧vi=.int .i64 i∧Hid (OwnSo wr Z vs (mkSo b1 (zs.take i)))∧Hid (Below Z w5 wr)) (fun _ _ vi _=>k-(intOf vi).toNat)
  case atStart=>exact ⟨0,Nat.zero_le _,rfl,rfl,O0,BZ⟩
  case round =>
   obtain ⟨i,hi,rfl,rfl,HO,HB⟩:=hrel
   by_cases q:i<k
   ·obtain ⟨g,o,rfl,ci⟩:=XI.out _ HB.out i q
    have XI2:=qh (fun W hW=>XI.out W hW i q)
    have HRZ:=qh (RZ.out i q)
    have HMK:=qh (MK.out i q)
    obtain ⟨z,hz⟩:=nmq (zs.getD i 0)
    rw [<-hz] at ci XI2 HRZ HMK
    have LM:=qh (show (mkSo b1 (zs.take i)).length<=1000000 by unfold mkSo; rw [List.length_map,List.length_take]; omega)
    have lt0:=HO.out.lt
    obtain ⟨l0,hl0⟩:=nmq (mkSo b1 (zs.take i))
    obtain ⟨r0,hr0⟩:=nmq (rz b1 zs i)
    rw [<-hl0] at HO LM HMK
    rw [<-hr0] at HRZ
    rw [<-hr0]
    clear hl0 hr0 hz
    have hzs:=HB.out.size
    have i5:(0:Int)<=(i:Int):=by omega
    have i6:(i:Int)<(k:Int):=by omega
    go_wp2_with (at_builtin; refine wp_putSo rfl (.tmp 66) (.tmp 73) rfl _ l0 rfl (HO.out.alloc _) (Nat.le_trans (by have:=HZ.out; omega) (show wr.heap.size<=_ by simp)) wr.heap.size ⟨some ⟨b1,0,none⟩,[],0,z⟩ rfl (fun j hj=>(RowAt.new wr [.pointer (some ⟨b1,0,none⟩),.int .i64 0,.int .i64 z] _).cell j) LM.out ?_; intro v8 w8 ho hgr)
    have HB8:=qh (show Below Z w5 w8 from (HB.out.alloc (by have:=HZ.out; omega) (.cells #[.pointer (some ⟨b1,0,none⟩),.int .i64 0,.int .i64 z] 71)).grown hgr (by have:=HZ.out; simp; omega) (fun q e=>(lt0 q e).1))
    have OD:=qh (show OwnSo w8.drew Z v8 (mkSo b1 (zs.take (i+1))) by rw [HMK.out]; exact ho)
    have HBD:=qh (show Below Z w5 w8.drew from HB8.out.drew)
    have CX:=qh (show w8.drew.cell? ⟨g,o+i,none⟩=some (.int .i64 z) from by
     obtain ⟨b',o',e,h⟩:=XI2.out w8 HB8.out
     injection e with e
     injection e with e1 e2 _
     subst e1; subst e2
     exact h)
    clear hgr ho lt0 ci
    cases r0 with
    | false =>
     have HR9:=qh (show rz b1 zs (i+1)=false by rw [HRZ.out,Bool.false_and])
     refine wp_region_held_drew (S:=(fun W=>W.cell? ⟨g,o+i,none⟩=some (.int .i64 z))) (by kernel_rfl) (CX.out) (fun gH=>?_)
     refine rgT 0 (v:=?v1) ?y1 gH ?_
     case y1=>(intro v hSw; skip; go_simp<;>rfl)
     refine rgT 1 (v:=?v2) ?y2 gH ?_
     case y2=>(intro v hSw; skip; go_simp<;>rfl)
     refine rgS 2 gH ?_
     try simp only [putS]
     refine rgS 3 gH ?_
     refine rgS 4 gH ?_
     refine rgS 5 gH ?_
     try simp only [putS]
     refine rgS 6 gH ?_
     refine rgT 7 (v:=?v3) ?y3 gH ?_
     case y3=>(intro v hSw; skip; go_simp<;>rfl)
     refine rgT 8 (v:=?v4) ?y4 gH ?_
     case y4=>(intro v hSw; skip; go_simp<;>rfl)
     try simp only [putS]
     refine rgS 9 gH ?_
     refine rgS 10 gH ?_
     refine rgS 11 gH ?_
     try simp only [putS]
     refine rgS 12 gH ?_
     refine rgS 13 gH ?_
     refine rgS 14 gH ?_
     try simp only [putS]
     refine rgS 15 gH ?_
     refine rgS 16 gH ?_
     refine rgS 17 gH ?_
     try simp only [putS]
     refine rgS 18 gH ?_
     refine rgS 19 gH ?_
     refine rgS 20 gH ?_
     try simp only [putS]
     refine rgS 21 gH ?_
     refine rgS 22 gH ?_
     refine rgT 23 (v:=?v5) ?y5 gH ?_
     case y5=>(intro v hSw; skip; go_simp<;>rfl)
     try simp only [putS]
     refine rgT 24 (v:=?v6) ?y6 gH ?_
     case y6=>(intro v hSw; skip; go_simp<;>rfl)
     try simp only [putS]
     refine rgD ?_
     go_wp2_with fail
     go_roundw
     case rel=>exact ⟨i+1,by omega,by rw [HR9.out],by go_num,OD,HBD⟩
     case measure=>simp [intOf]; omega
    | true =>
     by_cases z0:0<=z
     ·have zd:decide (0<=z)=true:=decide_eq_true z0
      by_cases i0:i=0
      ·have HR9:=qh (show rz b1 zs (i+1)=true by rw [HRZ.out,zd,decide_eq_true i0]; rfl)
       have zi:((i:Int) == 0)=true:=by simp; omega
       clear i0
       refine wp_region_held_drew (S:=(fun W=>W.cell? ⟨g,o+i,none⟩=some (.int .i64 z))) (by kernel_rfl) (CX.out) (fun gH=>?_)
       refine rgT 0 (v:=?v7) ?y7 gH ?_
       case y7=>(intro v hSw; skip; go_simp<;>rfl)
       refine rgT 1 (v:=?v8) ?y8 gH ?_
       case y8=>(intro v hSw; skip; go_simp<;>rfl)
       refine rgT 2 (v:=?v9) ?y9 gH ?_
       case y9=>(intro v hSw; skip; go_simp<;>rfl)
       try simp only [putS]
       refine rgT 3 (v:=?v10) ?y10 gH ?_
       case y10=>(intro v hSw; skip; go_simp<;>rfl)
       refine rgT 4 (v:=?v11) ?y11 gH ?_
       case y11=>(intro v hSw; skip; go_simp<;>rfl)
       refine rgT 5 (v:=?v12) ?y12 gH ?_
       case y12=>(intro v hSw; skip; go_simp<;>rfl)
       try simp only [putS]
       refine rgT 6 (v:=?v13) ?y13 gH ?_
       case y13=>(intro v hSw; skip; go_simp<;>rfl)
       refine rgT 7 (v:=?v14) ?y14 gH ?_
       case y14=>(intro v hSw; skip; go_simp<;>rfl)
       refine rgT 8 (v:=?v15) ?y15 gH ?_
       case y15=>(intro v hSw; skip; go_simp<;>rfl)
       try simp only [putS]
       refine rgT 9 (v:=?v16) ?y16 gH ?_
       case y16=>(intro v hSw; skip; go_simp<;>rfl)
       refine rgT 10 (v:=?v17) ?y17 gH ?_
       case y17=>(intro v hSw; skip; go_simp<;>rfl)
       refine rgT 11 (v:=?v18) ?y18 gH ?_
       case y18=>(intro v hSw; skip; go_simp<;>rfl)
       try simp only [putS]
       refine rgS 12 gH ?_
       refine rgS 13 gH ?_
       refine rgS 14 gH ?_
       try simp only [putS]
       refine rgS 15 gH ?_
       refine rgS 16 gH ?_
       refine rgS 17 gH ?_
       try simp only [putS]
       refine rgS 18 gH ?_
       refine rgS 19 gH ?_
       refine rgS 20 gH ?_
       try simp only [putS]
       refine rgS 21 gH ?_
       refine rgT 22 (v:=?v19) ?y19 gH ?_
       case y19=>(intro v hSw; skip; go_simp<;>rfl)
       refine rgT 23 (v:=?v20) ?y20 gH ?_
       case y20=>(intro v hSw; skip; go_simp<;>rfl)
       try simp only [putS]
       refine rgT 24 (v:=?v21) ?y21 gH ?_
       case y21=>(intro v hSw; skip; go_simp<;>rfl)
       try simp only [putS]
       refine rgD ?_
       go_wp2_with fail
       go_roundw
       case rel=>exact ⟨i+1,by omega,by rw [HR9.out],by go_num,OD,HBD⟩
       case measure=>simp [intOf]; omega
      ·have zi:((i:Int) == 0)=false:=by simp; omega
       obtain ⟨j,hj⟩:=nmq (i-1)
       obtain ⟨pz,hpz⟩:=nmq (zs.getD (i-1) 0)
       have HR9:=qh (show rz b1 zs (i+1)=decide (pz<z) by rw [HRZ.out,zd,decide_eq_false i0,<-hpz]; simp)
       have CP:=qh (show w8.drew.cell? ⟨g,o+j,none⟩=some (.int .i64 pz) from by
        obtain ⟨b',o',e,h⟩:=XI.out w8 HB8.out (i-1) (by omega)
        injection e with e
        injection e with e1 e2 _
        subst e1; subst e2
        rw [hj,hpz]
        exact h)
       have ej:(i:Int)-1=(j:Int):=by omega
       have wj:IntKind.i64.wrap (j:Int)=(j:Int):=by rw [IntKind.wrap_i64]; omega
       have j0:(0:Int)<=(j:Int):=by omega
       have j1:(j:Int)<(k:Int):=by omega
       clear i0 hj hpz
       refine wp_region_held_drew (S:=(fun W=>W.cell? ⟨g,o+i,none⟩=some (.int .i64 z)∧W.cell? ⟨g,o+j,none⟩=some (.int .i64 pz))) (by kernel_rfl) (⟨CX.out,CP.out⟩) (fun gH=>?_)
       refine rgT 0 (v:=?v22) ?y22 gH ?_
       case y22=>(intro v hSw; go_simp<;>rfl)
       refine rgT 1 (v:=?v23) ?y23 gH ?_
       case y23=>(intro v hSw; go_simp<;>rfl)
       refine rgT 2 (v:=?v24) ?y24 gH ?_
       case y24=>(intro v hSw; go_simp<;>rfl)
       try simp only [putS]
       refine rgT 3 (v:=?v25) ?y25 gH ?_
       case y25=>(intro v hSw; go_simp<;>rfl)
       refine rgT 4 (v:=?v26) ?y26 gH ?_
       case y26=>(intro v hSw; go_simp<;>rfl)
       refine rgT 5 (v:=?v27) ?y27 gH ?_
       case y27=>(intro v hSw; go_simp<;>rfl)
       try simp only [putS]
       refine rgT 6 (v:=?v28) ?y28 gH ?_
       case y28=>(intro v hSw; go_simp<;>rfl)
       refine rgT 7 (v:=?v29) ?y29 gH ?_
       case y29=>(intro v hSw; go_simp<;>rfl)
       refine rgT 8 (v:=?v30) ?y30 gH ?_
       case y30=>(intro v hSw; go_simp<;>rfl)
       try simp only [putS]
       refine rgT 9 (v:=?v31) ?y31 gH ?_
       case y31=>(intro v hSw; go_simp<;>rfl)
       refine rgT 10 (v:=?v32) ?y32 gH ?_
       case y32=>(intro v hSw; go_simp<;>rfl)
       refine rgT 11 (v:=?v33) ?y33 gH ?_
       case y33=>(intro v hSw; go_simp<;>rfl)
       try simp only [putS]
       refine rgT 12 (v:=?v34) ?y34 gH ?_
       case y34=>(intro v hSw; go_simp<;>rfl)
       refine rgT 13 (v:=?v35) ?y35 gH ?_
       case y35=>(intro v hSw; go_simp<;>rfl)
       refine rgT 14 (v:=?v36) ?y36 gH ?_
       case y36=>(intro v hSw; go_simp<;>rfl)
       try simp only [putS]
       refine rgT 15 (v:=?v37) ?y37 gH ?_
       case y37=>(intro v hSw; go_simp<;>rfl)
       refine rgT 16 (v:=?v38) ?y38 gH ?_
       case y38=>(intro v hSw; go_simp<;>rfl)
       refine rgT 17 (v:=?v39) ?y39 gH ?_
       case y39=>(intro v hSw; go_simp<;>rfl)
       try simp only [putS]
       refine rgT 18 (v:=?v40) ?y40 gH ?_
       case y40=>(intro v hSw; go_simp<;>rfl)
       refine rgT 19 (v:=?v41) ?y41 gH ?_
       case y41=>(intro v hSw; go_simp<;>rfl)
       refine rgT 20 (v:=?v42) ?y42 gH ?_
       case y42=>(intro v hSw; go_simp<;>rfl)
       try simp only [putS]
       refine rgT 21 (v:=?v43) ?y43 gH ?_
       case y43=>(intro v hSw; go_simp<;>rfl)
       refine rgT 22 (v:=?v44) ?y44 gH ?_
       case y44=>(intro v hSw; go_simp<;>rfl)
       refine rgT 23 (v:=?v45) ?y45 gH ?_
       case y45=>(intro v hSw; go_simp<;>rfl)
       try simp only [putS]
       refine rgT 24 (v:=?v46) ?y46 gH ?_
       case y46=>(intro v hSw; go_simp<;>rfl)
       try simp only [putS]
       refine rgD ?_
       go_wp2_with fail
       go_roundw
       case rel=>exact ⟨i+1,by omega,by rw [HR9.out],by go_num,OD,HBD⟩
       case measure=>simp [intOf]; omega
     ·have HR9:=qh (show rz b1 zs (i+1)=false by rw [HRZ.out,decide_eq_false z0,Bool.false_and,Bool.and_false])
      have zd:decide (0<=z)=false:=decide_eq_false z0
      refine wp_region_held_drew (S:=(fun W=>W.cell? ⟨g,o+i,none⟩=some (.int .i64 z))) (by kernel_rfl) (CX.out) (fun gH=>?_)
      refine rgT 0 (v:=?v47) ?y47 gH ?_
      case y47=>(intro v hSw; skip; go_simp<;>rfl)
      refine rgT 1 (v:=?v48) ?y48 gH ?_
      case y48=>(intro v hSw; skip; go_simp<;>rfl)
      refine rgT 2 (v:=?v49) ?y49 gH ?_
      case y49=>(intro v hSw; skip; go_simp<;>rfl)
      try simp only [putS]
      refine rgT 3 (v:=?v50) ?y50 gH ?_
      case y50=>(intro v hSw; skip; go_simp<;>rfl)
      refine rgT 4 (v:=?v51) ?y51 gH ?_
      case y51=>(intro v hSw; skip; go_simp<;>rfl)
      refine rgT 5 (v:=?v52) ?y52 gH ?_
      case y52=>(intro v hSw; skip; go_simp<;>rfl)
      try simp only [putS]
      refine rgT 6 (v:=?v53) ?y53 gH ?_
      case y53=>(intro v hSw; skip; go_simp<;>rfl)
      refine rgT 7 (v:=?v54) ?y54 gH ?_
      case y54=>(intro v hSw; skip; go_simp<;>rfl)
      refine rgT 8 (v:=?v55) ?y55 gH ?_
      case y55=>(intro v hSw; skip; go_simp<;>rfl)
      try simp only [putS]
      refine rgS 9 gH ?_
      refine rgS 10 gH ?_
      refine rgS 11 gH ?_
      try simp only [putS]
      refine rgS 12 gH ?_
      refine rgS 13 gH ?_
      refine rgS 14 gH ?_
      try simp only [putS]
      refine rgS 15 gH ?_
      refine rgS 16 gH ?_
      refine rgS 17 gH ?_
      try simp only [putS]
      refine rgS 18 gH ?_
      refine rgS 19 gH ?_
      refine rgS 20 gH ?_
      try simp only [putS]
      refine rgS 21 gH ?_
      refine rgS 22 gH ?_
      refine rgT 23 (v:=?v56) ?y56 gH ?_
      case y56=>(intro v hSw; skip; go_simp<;>rfl)
      try simp only [putS]
      refine rgT 24 (v:=?v57) ?y57 gH ?_
      case y57=>(intro v hSw; skip; go_simp<;>rfl)
      try simp only [putS]
      refine rgD ?_
      go_wp2_with fail
      go_roundw
      case rel=>exact ⟨i+1,by omega,by rw [HR9.out],by go_num,OD,HBD⟩
      case measure=>simp [intOf]; omega
   ·obtain rfl:i=k:=by omega
    have RR:=qh (show R wr b1 F mA from HX.out.keep R5.out (fun q e=>HB.out.block q (by rw [HZ.out]; exact HX.out.lt R5.out e)) HB.out.size)
    have own:=HO.out
    rw [show zs.take i=zs by rw [HK.out,List.take_length]] at own
    obtain ⟨A2,c2,rfl,sl2,hc2,hA2⟩:=own.sl
    have ML:=show (mkSo b1 zs).length=i from by unfold mkSo; rw [List.length_map,HK.out]
    have ERZ:=qh (show rz b1 zs i=riseF (-1) (mkSo b1 zs) by unfold rz; rw [HK.out,List.take_length])
    have SS:=qh sl2
    rw [ML]
    rw [ML] at hc2 own
    have PZ:=qh (show w.heap.size<Z by have h1:=BX5.out.size; have h2:=R6.out.lt; have h3:=HZ.out; omega)
    have R6r:=qh (show RowAt wr w.heap.size [.string frm,.string to,.int .i64 limit] 25 from (HB.out.block _ (by have h1:=BX5.out.size; have h2:=R6.out.lt; have h3:=HZ.out; omega)).trans (R6.out.below BX5.out))
    have y0:=R6r.out.cell 0
    have y1:=R6r.out.cell 1
    have y2:=R6r.out.cell 2
    simp only [geS] at y0 y1 y2
    have AT:=qh (show ((mkSo b1 zs).all fun s=>s.rp.isSome)=true by unfold mkSo; rw [List.all_map,List.all_eq_true]; intro x _; rfl)
    cases hok:(riseF (-1) (mkSo b1 zs) && rgOk frm to limit) with
    | false =>
     have OA:=qh (xOpenArg (mkSo b1 zs) A2 c2 frm to limit (.pointer none) 0 wr SS.out (by rw [ML]; omega) AT.out hok)
     rw [ML] at OA
     have HOW:=qh own
     have HBB:=HB
     have B5W:=qh (show w.heap.size<=Z by rw [HZ.out]; exact B5.out.size)
     have WR:=qh (show w.heap.size<=wr.heap.size from Nat.le_trans B5.out.size HB.out.size)
     have ZW:=qh (show Z<=wr.heap.size by have:=HZ.out; have:=HB.out.size; omega)
     clear HO HB own sl2 hA2 ML
     go_wp2_with fail
     refine OA.out.mono ?_
     rintro e w10 ⟨rfl,hb10⟩
     have O10:=qh (OwnSo.chg HOW.out (Chg.of_below (F:=fun _=>False) hb10) (fun _ _ h=>h))
     have R10:=qh (R6r.out.below hb10)
     have B10:=qh (show Below w.heap.size w w10 from (B5.out.trans (HBB.out.mono B5W.out)).trans (hb10.mono WR.out))
     have Z10:=qh (Nat.le_trans ZW.out hb10.size)
     clear hb10 y0 y1 y2
     go_wp2_with fail
     have CR:=qh (fun W (r:RowAt W w.heap.size [.string frm,.string to,.int .i64 limit] 25)=>show W.cell? ⟨w.heap.size,0,none⟩=some (.string frm)∧W.cell? ⟨w.heap.size,1,none⟩=some (.string to)∧W.cell? ⟨w.heap.size,2,none⟩=some (.int .i64 limit) from ⟨r.cell 0,r.cell 1,r.cell 2⟩)
     obtain ⟨Wd,hWd⟩:=nmq (w10.drew)
     have RD:=qh (show RowAt Wd w.heap.size [.string frm,.string to,.int .i64 limit] 25 by rw [hWd]; exact R10.out.drewN 1)
     have OD:=qh (show OwnSo Wd Z (.slice A2 i c2) (mkSo b1 zs) by rw [hWd]; exact O10.out)
     have BD:=qh (show Below w.heap.size w Wd by rw [hWd]; exact B10.out.drew)
     have SD:=qh (show Z<=Wd.heap.size by rw [hWd]; exact Z10.out)
     have GD:=qh (show Chg (fun q=>(Value.slice A2 i c2).ownBlock=some q) w10 Wd by rw [hWd]; exact (Chg.refl _ _).drew)
     refine wp_region_held_drew (S:=(fun W=>W.cell? ⟨w.heap.size,0,none⟩=some (.string frm)∧W.cell? ⟨w.heap.size,1,none⟩=some (.string to)∧W.cell? ⟨w.heap.size,2,none⟩=some (.int .i64 limit))) (by kernel_rfl) (CR.out _ (hWd ▸ RD.out)) (fun gH=>?_)
     rw [<-hWd] at gH ⊢
     clear hWd
     refine rgT 0 (v:=?v58) ?y58 gH ?_
     case y58=>(intro v hSw; go_simp<;>rfl)
     refine rgT 1 (v:=?v59) ?y59 gH ?_
     case y59=>(intro v hSw; go_simp<;>rfl)
     refine rgT 4 (v:=?v60) ?y60 gH ?_
     case y60=>(intro v hSw; go_simp<;>rfl)
     try simp only [putS]
     refine rgO 2 fun K hK=>?_
     go_simp
     refine hK.out _ _ (CR.out _ (RD.out.alloc _)) (fun gH=>?_)
     clear hK K
     try simp only [putS]
     refine rgO 3 fun K hK=>?_
     refine step_putSo rfl (.tmp 106) (.tmp 108) rfl Z (.slice A2 i c2) (mkSo b1 zs) rfl (OD.out.alloc _) Wd.heap.size ⟨none,[],0,0⟩ rfl (fun q _=>(RowAt.new Wd [.pointer none,.int .i64 0,.int .i64 0] _).cell q) (by unfold mkSo; rw [List.length_map,<-HK.out]; omega) (Nat.le_trans SD.out (by simp)) ?_
     intro v11 w11 ho11 hg11 hv11
     have lto:=(OwnSo.lt (OD.out.alloc (.cells #[.pointer none,.int .i64 0,.int .i64 0] 71)))
     obtain ⟨A3,c3,e11,sl3,_,_⟩:=ho11.sl
     obtain ⟨m3,hm3⟩:=nmq ((mkSo b1 zs++[(⟨none,[],0,0⟩:So)]).length)
     rw [<-hm3] at e11
     subst e11
     have gW:Chg (fun q=>(Value.slice A2 i c2).ownBlock=some q) (Wd.alloc (.cells #[.pointer none,.int .i64 0,.int .i64 0] 71)) w11:=(Chg.refl _ _).grown hg11 (fun q e=>.inl e)
     have GW:=qh gW
     have R11:=qh (show RowAt w11 w.heap.size [.string frm,.string to,.int .i64 limit] 25 from RowAt.keep (RD.out.alloc _) gW (fun e=>by have:=(lto _ e).1; have:=PZ.out; omega))
     have B11:=qh (show Below w.heap.size w w11 from (BD.out.alloc BD.out.size _).grown hg11 (Nat.le_trans BD.out.size (by simp)) (fun q e=>by have:=(lto q e).1; have:=PZ.out; omega))
     have XN:=qh (xOpenNil (mkSo b1 zs++[(⟨none,[],0,0⟩:So)]) A3 c3 frm to limit (.pointer none) 0 w11 sl3 (by rw [List.length_append]; unfold mkSo; rw [List.length_map,<-HK.out]; simp; omega) (by rw [List.all_append]; simp))
     rw [<-hm3] at XN
     refine hK.out _ _ (CR.out _ R11.out) (fun gH=>?_)
     clear hK K hg11 hv11 ho11 lto sl3 hm3 gW
     try simp only [putS]
     refine rgO 5 fun K hK=>?_
     go_simp
     refine XN.out.mono ?_
     rintro e w12 ⟨rfl,hb12⟩
     have B12:=qh (below_then B11.out hb12)
     have R12:=qh (R11.out.below hb12)
     have G12:=qh hb12
     clear hb12
     refine hK.out _ _ (CR.out _ R12.out) (fun gH=>?_)
     clear hK K
     refine rgT 6 (v:=?v61) ?y61 gH ?_
     case y61=>(intro v hSw; go_simp<;>rfl)
     refine rgT 7 (v:=?v62) ?y62 gH ?_
     case y62=>(intro v hSw; go_simp<;>rfl)
     try simp only [putS]
     refine rgT 8 (v:=?v63) ?y63 gH ?_
     case y63=>(intro v hSw; go_simp<;>rfl)
     refine rgT 9 (v:=?v64) ?y64 gH ?_
     case y64=>(intro v hSw; go_simp<;>rfl)
     refine rgT 10 (v:=?v65) ?y65 gH ?_
     case y65=>(intro v hSw; go_simp<;>rfl)
     try simp only [putS]
     refine rgD ?_
     go_wp2_with fail
     refine (xToldNilM _).mono ?_
     rintro e w13 ⟨rfl,hb13⟩
     have B13:=qh (below_then B12.out hb13)
     have R13:=qh (R12.out.below hb13)
     have G13:=qh (below_then G12.out hb13)
     clear hb13
     have t0:=R13.out.cell 0
     have t1:=R13.out.cell 1
     have t2:=R13.out.cell 2
     simp only [geS] at t0 t1 t2
     cases hrz:riseF (-1) (mkSo b1 zs) with
     | false =>
      have er:rz b1 zs i=false:=by rw [ERZ.out,hrz]
      go_wp2_with fail
      go_ret
      exact ⟨rfl,B13.out⟩
     | true =>
      have er:rz b1 zs i=true:=by rw [ERZ.out,hrz]
      have RG:=qh (rRightMg frm to limit)
      rw [hrz,Bool.true_and] at hok
      rw [hok] at RG
      go_wp2_with fail
      refine (RG.out _).mono ?_
      rintro e w14 ⟨rfl,hb14⟩
      have B14:=qh (below_then B13.out hb14)
      clear hb14 t0 t1 t2
      go_wp2_with fail
      go_ret
      exact ⟨rfl,B14.out⟩
    | true =>
     obtain ⟨g2,g3⟩:riseF (-1) (mkSo b1 zs)=true∧rgOk frm to limit=true:=by simpa using hok
     have FZ:=qh (show ∀ q,F q->q<Z from fun q e=>by have h1:=HZ.out; have h2:=HX.out.lt R5.out e; omega)
     have hP:KeptB (fun W=>R W b1 F mA):=fun W W' h hb=>HX.out.keep h (fun q e=>hb.block q (HX.out.lt h e)) hb.size
     have sok:∀ s,s ∈ mkSo b1 zs->SoOk (fun W=>R W b1 F mA) s:=fun s hs=>by
      unfold mkSo at hs
      obtain ⟨x,_,rfl⟩:=List.mem_map.1 hs
      exact soOk HX.out (m:=mA) (fun W h=>h) List.Pairwise.nil _ rfl rfl
     have OA:=qh (xOpen hP (S:=[]) (sv:=.pointer none) (place:=0) (mkSo b1 zs) A2 c2 frm to limit wr RR.out SS.out (by rw [ML]; omega) sok (keysNil _) (by have:=HQ.out.1; omega) (by have:=HQ.out.2; omega) AT.out g2 g3)
     rw [ML] at OA
     have HOW:=qh own
     have HBB:=HB
     have B5W:=qh (show w.heap.size<=Z by rw [HZ.out]; exact B5.out.size)
     have WR:=qh (show w.heap.size<=wr.heap.size from Nat.le_trans B5.out.size HB.out.size)
     have ZW:=qh (show Z<=wr.heap.size by have:=HZ.out; have:=HB.out.size; omega)
     have HP:=qh hP
     have er:rz b1 zs i=true:=by rw [ERZ.out,g2]
     have RG:=qh (rRightMg frm to limit)
     rw [g3] at RG
     clear HO HB own sl2 hA2 ML hok g2 sok hP
     go_wp2_with fail
     refine OA.out.mono ?_
     rintro e w10 ⟨b,ss,v,rfl,ho⟩
     obtain ⟨A5,c5,rfl,_,_,hA5⟩:=ho.own.sl
     have hb10:=ho.below
     have O10:=qh (OwnSo.chg HOW.out (Chg.of_below (F:=fun _=>False) hb10) (fun _ _ h=>h))
     have R10:=qh (R6r.out.below hb10)
     have B10:=qh (show Below w.heap.size w w10 from (B5.out.trans (HBB.out.mono B5W.out)).trans (hb10.mono WR.out))
     have Z10:=qh (Nat.le_trans ZW.out hb10.size)
     have CN:=qh ho
     have HA5:=qh hA5
     clear hb10 y0 y1 y2 ho hA5
     go_wp2_with fail
     have CR:=qh (fun W (r:RowAt W w.heap.size [.string frm,.string to,.int .i64 limit] 25)=>show W.cell? ⟨w.heap.size,0,none⟩=some (.string frm)∧W.cell? ⟨w.heap.size,1,none⟩=some (.string to)∧W.cell? ⟨w.heap.size,2,none⟩=some (.int .i64 limit) from ⟨r.cell 0,r.cell 1,r.cell 2⟩)
     obtain ⟨Wd,hWd⟩:=nmq (w10.drew)
     have RD:=qh (show RowAt Wd w.heap.size [.string frm,.string to,.int .i64 limit] 25 by rw [hWd]; exact R10.out.drewN 1)
     have OD:=qh (show OwnSo Wd Z (.slice A2 i c2) (mkSo b1 zs) by rw [hWd]; exact O10.out)
     have BD:=qh (show Below w.heap.size w Wd by rw [hWd]; exact B10.out.drew)
     have SD:=qh (show Z<=Wd.heap.size by rw [hWd]; exact Z10.out)
     have GD:=qh (show Chg (fun q=>(Value.slice A2 i c2).ownBlock=some q) w10 Wd by rw [hWd]; exact (Chg.refl _ _).drew)
     refine wp_region_held_drew (S:=(fun W=>W.cell? ⟨w.heap.size,0,none⟩=some (.string frm)∧W.cell? ⟨w.heap.size,1,none⟩=some (.string to)∧W.cell? ⟨w.heap.size,2,none⟩=some (.int .i64 limit))) (by kernel_rfl) (CR.out _ (hWd ▸ RD.out)) (fun gH=>?_)
     rw [<-hWd] at gH ⊢
     clear hWd
     refine rgT 0 (v:=?v66) ?y66 gH ?_
     case y66=>(intro v hSw; go_simp<;>rfl)
     refine rgT 1 (v:=?v67) ?y67 gH ?_
     case y67=>(intro v hSw; go_simp<;>rfl)
     refine rgT 4 (v:=?v68) ?y68 gH ?_
     case y68=>(intro v hSw; go_simp<;>rfl)
     try simp only [putS]
     refine rgO 2 fun K hK=>?_
     go_simp
     refine hK.out _ _ (CR.out _ (RD.out.alloc _)) (fun gH=>?_)
     clear hK K
     try simp only [putS]
     refine rgO 3 fun K hK=>?_
     refine step_putSo rfl (.tmp 106) (.tmp 108) rfl Z (.slice A2 i c2) (mkSo b1 zs) rfl (OD.out.alloc _) Wd.heap.size ⟨none,[],0,0⟩ rfl (fun q _=>(RowAt.new Wd [.pointer none,.int .i64 0,.int .i64 0] _).cell q) (by unfold mkSo; rw [List.length_map,<-HK.out]; omega) (Nat.le_trans SD.out (by simp)) ?_
     intro v11 w11 ho11 hg11 hv11
     have lto:=(OwnSo.lt (OD.out.alloc (.cells #[.pointer none,.int .i64 0,.int .i64 0] 71)))
     obtain ⟨A3,c3,e11,sl3,_,_⟩:=ho11.sl
     obtain ⟨m3,hm3⟩:=nmq ((mkSo b1 zs++[(⟨none,[],0,0⟩:So)]).length)
     rw [<-hm3] at e11
     subst e11
     have gW:Chg (fun q=>(Value.slice A2 i c2).ownBlock=some q) (Wd.alloc (.cells #[.pointer none,.int .i64 0,.int .i64 0] 71)) w11:=(Chg.refl _ _).grown hg11 (fun q e=>.inl e)
     have GW:=qh gW
     have R11:=qh (show RowAt w11 w.heap.size [.string frm,.string to,.int .i64 limit] 25 from RowAt.keep (RD.out.alloc _) gW (fun e=>by have:=(lto _ e).1; have:=PZ.out; omega))
     have B11:=qh (show Below w.heap.size w w11 from (BD.out.alloc BD.out.size _).grown hg11 (Nat.le_trans BD.out.size (by simp)) (fun q e=>by have:=(lto q e).1; have:=PZ.out; omega))
     have XN:=qh (xOpenNil (mkSo b1 zs++[(⟨none,[],0,0⟩:So)]) A3 c3 frm to limit (.pointer none) 0 w11 sl3 (by rw [List.length_append]; unfold mkSo; rw [List.length_map,<-HK.out]; simp; omega) (by rw [List.all_append]; simp))
     rw [<-hm3] at XN
     refine hK.out _ _ (CR.out _ R11.out) (fun gH=>?_)
     clear hK K hg11 hv11 ho11 lto sl3 hm3 gW
     try simp only [putS]
     refine rgO 5 fun K hK=>?_
     go_simp
     refine XN.out.mono ?_
     rintro e w12 ⟨rfl,hb12⟩
     have B12:=qh (below_then B11.out hb12)
     have R12:=qh (R11.out.below hb12)
     have G12:=qh hb12
     clear hb12
     refine hK.out _ _ (CR.out _ R12.out) (fun gH=>?_)
     clear hK K
     refine rgT 6 (v:=?v69) ?y69 gH ?_
     case y69=>(intro v hSw; go_simp<;>rfl)
     refine rgT 7 (v:=?v70) ?y70 gH ?_
     case y70=>(intro v hSw; go_simp<;>rfl)
     try simp only [putS]
     refine rgT 8 (v:=?v71) ?y71 gH ?_
     case y71=>(intro v hSw; go_simp<;>rfl)
     refine rgT 9 (v:=?v72) ?y72 gH ?_
     case y72=>(intro v hSw; go_simp<;>rfl)
     refine rgT 10 (v:=?v73) ?y73 gH ?_
     case y73=>(intro v hSw; go_simp<;>rfl)
     try simp only [putS]
     refine rgD ?_
     go_wp2_with fail
     refine (xToldNilM _).mono ?_
     rintro e w13 ⟨rfl,hb13⟩
     have B13:=qh (below_then B12.out hb13)
     have R13:=qh (R12.out.below hb13)
     have G13:=qh (below_then G12.out hb13)
     clear hb13
     have CG13:=qh (show Chg (fun q=>(Value.slice A2 i c2).ownBlock=some q) w10 w13 from ((GD.out.alloc _).then GW.out).then (Chg.of_below G13.out))
     have t0:=R13.out.cell 0
     have t1:=R13.out.cell 1
     have t2:=R13.out.cell 2
     simp only [geS] at t0 t1 t2
     go_wp2_with fail
     refine (RG.out _).mono ?_
     rintro e w14 ⟨rfl,hb14⟩
     have B14:=qh (below_then B13.out hb14)
     have CG:=qh (CG13.out.then (Chg.of_below hb14))
     have OLT:=qh (fun q e=>(HOW.out.lt q e).2)
     have OGE:=qh (fun q e=>(HOW.out.lt q e).1)
     clear hb14 t0 t1 t2
     by_cases n0:n<1
     ·have SA:=qh (xStepArg b n n0)
      go_wp2_with fail
      refine (SA.out _).mono ?_
      rintro e w15 ⟨rfl,hb15⟩
      have B15:=qh (below_then B14.out hb15)
      clear hb15
      go_wp2_with fail
      go_ret
      exact ⟨rfl,B15.out⟩
     ·have hcur:=RowAt.keep CN.out.cur CG.out (fun e=>by have h1:=OLT.out b e; have h2:=CN.out.new; omega)
      have hown:=CN.out.own.chg CG.out (fun q hq e=>by have h1:=OLT.out q e; have h2:=CN.out.new; omega)
      obtain ⟨A6,c6,e6,sl6,_,_⟩:=hown.sl
      injection e6 with e7 _ e8
      subst e7; subst e8
      have nob:∀ s,s ∈ ss->s.O=[]:=fun s hs=>by
       have hm:s.pl ∈ ss.map Src.pl:=List.mem_map_of_mem hs
       rw [CN.out.pl] at hm
       obtain ⟨t,ht,et⟩:=List.mem_map.1 hm
       unfold mkSo at ht
       obtain ⟨x,_,rfl⟩:=List.mem_map.1 ht
       have e1:s.O=(srcPl [] 0 ⟨some ⟨b1,0,none⟩,[],0,x⟩).1:=by rw [et]; rfl
       rw [e1]
       unfold srcPl
       split
       ·exact liv_nil
       ·rfl
      have lim:1<=limit∧limit<=64:=by
       have h:=g3
       unfold rgOk at h
       simp only [Bool.and_eq_true,decide_eq_true_eq] at h
       exact ⟨h.1,h.2.1⟩
      have slen:ss.length<=1000:=by
       have:=congrArg List.length CN.out.pl
       rw [List.length_map,List.length_map] at this
       rw [this]; unfold mkSo; rw [List.length_map,<-HK.out]; omega
      have SM:=qh (xStepM HP.out b (fun W W' h hc=>HX.out.keep h (fun q e=>hc.block q (HX.out.lt h e) (fun e2=>by have h1:=FZ.out q e; have h2:=ZW.out; have h3:=CN.out.new; omega)) hc.size) ss to limit 0 frm (-1) A5 c5 w14 n (by omega) n2
       (HX.out.keep RR.out (fun q e=>by
        have hq:=FZ.out q e
        exact (CG.out.block q (by have:=CN.out.below.size; have:=ZW.out; omega) (fun z=>by have:=OGE.out q z; omega)).trans (CN.out.below.block q (by have:=ZW.out; omega))) (Nat.le_trans CN.out.below.size CG.out.size))
       hcur sl6 (fun s hs=>⟨(CN.out.keys s hs).1,fun r hr=>((CN.out.keys s hs).2 r hr).keep CG.out (fun e=>by have h1:=OLT.out _ e; have h2:=CN.out.new; have h3:=CN.out.apart s hs r hr; omega)⟩) slen
       (fun s hs r hr=>by have:=CN.out.apart s hs r hr; omega) (fun a e=>by obtain ⟨g,e2,hg⟩:=HA5.out a e; rw [e2]; show g≠b; omega) (fun s hs x hx=>by rw [nob s hs] at hx; cases hx) (by omega) (by omega) (by omega))
      have NE:=qh (fun k key place=>run_none (nxt_empty nob to key place) k)
      have BW:=qh (show w.heap.size<=b from Nat.le_trans WR.out CN.out.new)
      clear hcur hown sl6 nob slen
      go_wp2_with fail
      refine SM.out.mono ?_
      rintro e w15 ⟨L,v9,key9,place9,hL,rfl,hO9,_,_,hc9⟩
      rw [NE.out] at hL
      subst hL
      obtain ⟨A9,c9,rfl,_⟩:=hO9.sl2
      have B15:=qh (show Below w.heap.size w w15 from B14.out.trans (hc9.below (fun q e=>by rw [e]; exact BW.out) B14.out.size))
      have ee:(decide ((0:Int)+(([]:List (Int × Wr)).length:Int)=limit) || decide ((([]:List (Int × Wr)).length:Int)<n))=true:=by
       rw [decide_eq_true (show (([]:List (Int × Wr)).length:Int)<n by show (0:Int)<n; omega),Bool.or_true]
      rw [ee]
      clear hO9 hc9 ee
      go_wp2_with fail
      go_ret
      exact ⟨rfl,B15.out⟩

end Go.Proofs.YtoljhoabbaigdaaGreat.mergeNil

namespace Go.Proofs.YtoljhoabbaigdaaGreat
open Go.Joins Go.ChangeShapes Go.WideShapes Go.ChangeAt Go.RowKit

theorem cellsI13:Tryz.prog.cellsOf 3=1:=by kernel_rfl
theorem open_is13 {H:Type} {enc:TypeId × Value->H} {W:World} {base:Nat} {v:Value} {d:DataW H} {ps:List MemPlace} (hval:Value.okWide Tryz.prog W .any base 75 v)
  (h:DataW.Trod enc Tryz.prog W 0 (fun _=>true) true 75 v d ps) (hlt:∀ x ∈ ps,x.block<W.heap.size) :
  ∃ A c zs,v=.slice A zs.length c∧SlI W A zs∧zs.length<=9223372036854775807:=by
 obtain ⟨a0,len,cap,rfl⟩:=okWide_slice Tryz.underlying75 hval
 obtain ⟨fuel,hf⟩:=h
 rcases open_ints Tryz.underlying75 Tryz.underlying3 cellsI13 hf with ⟨hcs,hx⟩ | ⟨a,len',cap',zs,hcs,_,hl,hm,hz,hx,hcell,hwz⟩
 ·simp [Value.cells] at hcs
  obtain ⟨rfl,rfl,rfl⟩:=hcs
  exact ⟨none,0,[],rfl,fun h=>absurd h (by simp),Nat.zero_le _⟩
 ·simp [Value.cells] at hcs
  obtain ⟨rfl,rfl,rfl⟩:=hcs
  simp only [Prod.mk.injEq] at hx
  obtain ⟨_,hps⟩:=hx
  simp only [if_true] at hz
  have hl2:(zs.take len).length=len:=by rw [List.length_take]; omega
  refine ⟨some a,cap,zs.take len,by rw [hl2],fun hp=>?_,by rw [hl2]; unfold maxLen at hm; omega⟩
  rw [hl2] at hp
  obtain ⟨b,off,spot⟩:=a
  have hspot:spot=none:=by simpa [Addr.add] using World.cell?_spot (hcell 0 (by omega))
  subst hspot
  refine ⟨b,off,rfl,hlt (.cell b off) (by rw [hps]; exact MemPlace.mem_row.2 ⟨0,by omega,by simp⟩),fun j hj=>?_⟩
  rw [hl2] at hj
  have h1:=hcell j (by omega)
  rw [add_plain] at h1
  rw [h1]
  simp only [List.getD]
  rw [List.getElem?_take,if_pos hj]
theorem open_rng13 {H:Type} {enc:TypeId × Value->H} {W:World} {base:Nat} {v:Value} {d:DataW H} {p:List MemPlace} (hval:Value.okWide Tryz.prog W .any base 25 v)
  (h:DataW.Trod enc Tryz.prog W 0 (fun _=>true) true 25 v d p):∃ (f t:ByteArray) (l:Int),v=.agg #[.string f,.string t,.int .i64 l]:=by
 obtain ⟨v0,v1,v2,y0,y1,y2,n,rfl,_,hp,h0,h1,h2⟩:=open_agg3 Tryz.underlying25 (by kernel_rfl) (by kernel_rfl) hval h
 obtain ⟨f,e0,q0,_⟩:=DataW.trod_string Tryz.underlying9 h0
 obtain ⟨t,e1,q1,_⟩:=DataW.trod_string Tryz.underlying9 h1
 obtain ⟨k,e2,q2,_⟩:=DataW.trod_int Tryz.underlying3 h2
 simp at e0 e1 e2
 subst e0; subst e1; subst e2
 exact ⟨f,t,k,rfl⟩
end Go.Proofs.YtoljhoabbaigdaaGreat
