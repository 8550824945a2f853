/- Proved parts: C9f C9g. Conditions: each theorem's own. -/
import Derived.Test.YtoljhoabbaigdaaGreatM10
import Derived.Test.YtoljhoabbaigdaaGreatM19
import Derived.Test.YtoljhoabbaigdaaGreatM18
import Derived.Laws.Rows
import Derived.Shelf.SlSorted.Search
import Derived.Test.YtoljhoabbaigdaaGreatQ2
set_option maxRecDepth 100000
set_option maxHeartbeats 8000000
namespace Go.Proofs.YtoljhoabbaigdaaGreat
open Go.RowKit Go.Shelf

theorem eql_zero (x:Val) (w:World):(binOp .eql 59 x.v Val.V0.v).run Tryz.prog w=.ok (.bool x.isZ) w:=by
 unfold Val.v
 rw [run_eql_struct,eqIn_val 9998]
 show Result.ok (Value.bool ((x.num == false) && ((x.txt.toList == (⟨#[]⟩:ByteArray).toList) && ((x.bits:Int) == 0)))) w=_
 rw [show (⟨#[]⟩:ByteArray).toList=[] by kernel_rfl]
 rfl
theorem ok_of_isZ {x:Val} (h:x.isZ=true):x.ok=true:=by
 rw [(Val.isZ_iff x).1 h]
 kernel_rfl

theorem xFollows9 (x:Ver) (p:Int) (w:World) (hf:x.val.Fits):Calls Tryz.prog 104 #[x.v,.int .i64 p] w fun e w'=>e=.returned (.bool (mayV p x))∧Below w.heap.size w w':=by
 obtain ⟨s,g,v⟩:=x
 obtain ⟨m,t,k⟩:=v
 obtain ⟨K,hK⟩:=nmq (Val.ok ⟨m,t,k⟩)
 obtain ⟨Y,hY⟩:=nmq (Val.isZ ⟨m,t,k⟩)
 have EM:=qh (show mayV p ⟨s,g,⟨m,t,k⟩⟩=(decide (p<s) && (decide (s<=1073741824) && (K && (!g || Y)))) by rw [hK,hY]; rfl)
 have KY:=qh (fun (h:Y=true)=>show K=true by rw [hK]; exact ok_of_isZ (by rw [<-hY]; exact h))
 have EZ:=eql_zero ⟨m,t,k⟩
 have VR:=qh (fun w=>vpRight ⟨m,t,k⟩ w hf)
 rw [<-hY] at EZ
 rw [<-hK] at VR
 have EZ:∀ w,(binOp .eql 59 (.agg #[.bool m,.string t,.int .u64 (k:Int)]) (.agg #[.bool false,.string ⟨#[]⟩,.int .u64 0])).run Tryz.prog w=.ok (.bool Y) w:=EZ
 have VR:Hid (∀ w,Calls Tryz.prog 68 #[.agg #[.bool m,.string t,.int .u64 (k:Int)]] w fun e w'=>e=.returned (.bool K)∧Below w.heap.size w w'):=VR
 have B0:=qh ((Below.refl w.heap.size w).alloc (Nat.le_refl _) (.cells #[.int .i64 s,.bool g,.bool m,.string t,.int .u64 (k:Int)] 129))
 show Calls Tryz.prog 104 #[.agg #[.int .i64 s,.bool g,.bool m,.string t,.int .u64 (k:Int)],.int .i64 p] w _
 clear hK hY hf
 rw [EM.out]
 by_cases p1:p<s
 ·by_cases p2:s<=1073741824
  ·have d1:=qh (decide_eq_true p1)
   have d2:=qh (decide_eq_true p2)
   cases g with
   | true =>
    go_enter Tryz.func104,Tryz.ntmps104
    go_wp2_with fail
    go_ret
    refine ⟨?_,B0.out⟩
    rw [d1.out,d2.out]
    cases Y with
    | false=>simp
    | true=>rw [KY.out rfl]; rfl
   | false =>
    go_enter Tryz.func104,Tryz.ntmps104
    go_wp2_with fail
    refine (VR.out _).mono ?_
    rintro e w1 ⟨rfl,hb1⟩
    have B1:=qh (below_then B0.out hb1)
    clear hb1
    go_wp2_with fail
    go_ret
    refine ⟨?_,B1.out⟩
    rw [d1.out,d2.out]; simp
  ·have d2:=qh (decide_eq_false p2)
   go_enter Tryz.func104,Tryz.ntmps104
   go_wp2_with fail
   go_ret
   exact ⟨by rw [d2.out]; simp,B0.out⟩
 ·have d1:=qh (decide_eq_false p1)
  go_enter Tryz.func104,Tryz.ntmps104
  go_wp2_with fail
  go_ret
  exact ⟨by rw [d1.out]; simp,B0.out⟩

theorem results_cell_one {P:Program} {fn:Func} {p:Tmp} {ty:TypeId} (h:fn.results=#[.cell p ty]) (tmps:Array Value) (w:World) (g:Nat) (t:TypeId) (cs:List Value) (d:TypeDesc)
  (hp:tmps.getD p undef=.pointer (some ⟨g,0,none⟩)) (hg:RowAt w g cs t)
  (hu:P.underlying ty=some d) (hd:(match d with | .struct _ | .array _ _=>true | _=>false)=true) (hi:(P.info? ty).map (·.size)=some cs.toArray.size) :
  (results fn tmps).run P w=.ok (.agg cs.toArray) w :=
 results_cell_row h tmps w g t cs.toArray _ d hp hg hu hd hi

theorem xFresh9 (x:Ver) (w:World) (ht:x.val.txt.size<=1000):Calls Tryz.prog 106 #[x.v] w fun e w'=>e=.returned x.v∧Below w.heap.size w w':=by
 obtain ⟨s,g,v⟩:=x
 obtain ⟨m,t,k⟩:=v
 obtain ⟨B,hB⟩:=nmq (w.heap.size)
 rw [<-hB]
 have CL:=qh (fun w=>lclone t w (Nat.le_trans ht (by decide)))
 have R0:=((RowAt.new w (Ver.cs ⟨s,g,⟨m,t,k⟩⟩) 129).alloc (.cells Ver.Z.cs.toArray 129))
 have R1:=RowAt.new (w.alloc (.cells (Ver.cs ⟨s,g,⟨m,t,k⟩⟩).toArray 129)) Ver.Z.cs 129
 rw [show (w.alloc (.cells (Ver.cs ⟨s,g,⟨m,t,k⟩⟩).toArray 129)).heap.size=w.heap.size+1 by simp,<-hB] at R1
 rw [<-hB] at R0
 have B0:=qh (show Below B w ((w.alloc (.cells (Ver.cs ⟨s,g,⟨m,t,k⟩⟩).toArray 129)).alloc (.cells Ver.Z.cs.toArray 129)) by rw [hB]; exact ((Below.refl _ _).alloc (Nat.le_refl _) _).alloc (by simp) _)
 have R0:=qh R0
 have R1:=qh R1
 have HB:=qh hB
 show Calls Tryz.prog 106 #[.agg #[.int .i64 s,.bool g,.bool m,.string t,.int .u64 (k:Int)]] w _
 clear ht hB
 go_enter Tryz.func106,Tryz.ntmps106
 go_wp2_with fail
 rw [<-HB.out]
 refine (CL.out _).mono ?_
 rintro e w1 ⟨rfl,hb1⟩
 have B1:=qh (show Below B w w1 from B0.out.trans (hb1.mono (by rw [HB.out]; exact B0.out.size)))
 have q0:=R0.out.below hb1
 have q1:=R1.out.below hb1
 have Q0:=qh q0
 have Q1:=qh q1
 have f3:=q0.frozen 3
 have d0:=q0.cell 0
 have d1:=q0.cell 1
 have d2:=q0.cell 2
 have d3:=q0.cell 3
 have d4:=q0.cell 4
 have g0:=q1.frozen 0
 have g1:=q1.frozen 1
 have g2:=q1.frozen 2
 have g3:=q1.frozen 3
 have g4:=q1.frozen 4
 have e0:=q1.cell 0
 have e1:=q1.cell 1
 have e2:=q1.cell 2
 have e3:=q1.cell 3
 have e4:=q1.cell 4
 simp only [Ver.cs,Ver.Z,Val.V0,List.getElem?_cons_succ,List.getElem?_cons_zero] at d0 d1 d2 d3 d4 e0 e1 e2 e3 e4
 have F1:=qh (show Below B w (setV (w1.setCell ⟨B,3,none⟩ (.string t)) (B+1) ⟨s,g,⟨m,t,k⟩⟩) from setV_below (B1.out.setCell (Nat.le_refl _) _) (by omega))
 have F2:=qh (show RowAt (setV (w1.setCell ⟨B,3,none⟩ (.string t)) (B+1) ⟨s,g,⟨m,t,k⟩⟩) (B+1) (Ver.cs ⟨s,g,⟨m,t,k⟩⟩) _ from setV_row (Q1.out.other (by show B≠B+1; omega) _))
 clear hb1 q0 q1
 go_wp2_with fail
 refine bodyPost_ret (results_cell_one rfl _ (setV (w1.setCell ⟨B,3,none⟩ (.string t)) (B+1) ⟨s,g,⟨m,t,k⟩⟩) (B+1) _ _ _ rfl F2.out Tryz.underlying129 rfl (by kernel_rfl)) rfl ?_
 exact ⟨rfl,F1.out⟩

def searchRen:Ren:={ f:=fun k=>if k=16 then 163 else k,t:=fun k=>if k=3 then 3 else if k=4 then 4 else if k=35 then 256 else if k=38 then 87 else k,g:=fun k=>k }
theorem searchLays:SlLaysO.n16 Tryz.prog searchRen where
 mixed:=by kernel_rfl
 f16:=by kernel_rfl
 t3:=by kernel_rfl
 a3:=by intro w; rfl
 z3:=by intro w; rfl
 v3:=by intro w; rfl
 t4:=by kernel_rfl
 a4:=by intro w; rfl
 z4:=by intro w; rfl
 v4:=by intro w; rfl
 t35:=by kernel_rfl
 a35:=by intro w; rfl
 z35:=by intro w; rfl
 v35:=by intro w; rfl
 t38:=by kernel_rfl
 a38:=by intro w; rfl
 z38:=by intro w; rfl
 v38:=by intro w; rfl

theorem count_cnt {l:List Ver} (h:RiseV l) (s:Int):(List.range l.length).countP (fun i=>!decide (s<(l.getD i Ver.Z).seq))=cnt s l:=by
 have hr:∀ t,t<l.length->(List.range l.length)[t]! = t:=fun t ht=>by rw [getElem!_pos _ t (by simpa using ht)]; simp
 refine Lib.countP_boundary _ (List.range l.length) (cnt s l) (by simpa using cnt_le s l) (fun t ht=>?_) (fun t h3 h4=>?_)
 ·have hl:=cnt_le s l
  rw [hr t (by omega),decide_eq_false (by have:=(cnt_iff (f:=s) h t (by omega)).1 ht; omega)]; rfl
 ·have h4:t<l.length:=by simpa using h4
  rw [hr t h4,decide_eq_true (by
   by_cases q:(l.getD t Ver.Z).seq<=s
   ·have:=(cnt_iff (f:=s) h t h4).2 q; omega
   ·omega)]; rfl
theorem xUntil1 (ba bx b o c n:Nat) (y s:Int) (i:Nat) (W:World) (hi:i<n) (ha:W.cell? ⟨ba,0,none⟩=some (.slice (some ⟨b,o,none⟩) n c)) (hx:W.cell? ⟨bx,0,none⟩=some (.int .i64 s)) (hc:W.cell? ⟨b,o+i * 5,none⟩=some (.int .i64 y)) :
  Calls Tryz.prog 164 (#[.int .i64 i]++#[.pointer (some ⟨ba,0,none⟩),.pointer (some ⟨bx,0,none⟩)]) W fun e w'=>e=.returned (.bool (decide (s<y)))∧∃ q,w'=W.drewN q:=by
 have i0:(0:Int)<=(i:Int):=by omega
 have i1:(i:Int)<(n:Int):=by omega
 go_enter Tryz.func164,Tryz.ntmps164
 go_wp2_with fail
 go_quiet (fail)
 go_wp2_with fail
 go_ret
 exact ⟨rfl,_,rfl⟩
theorem xUntil9 (l:List Ver) (A:Option Addr) (c:Nat) (s:Int) (w:World) (h:SlV w A l) (hr:RiseV l) (hl:l.length<=1000) :
  Calls Tryz.prog 151 #[.slice A l.length c,.int .i64 s] w fun e w'=>e=.returned (.int .i64 (cnt s l:Nat))∧Below w.heap.size w w':=by
 obtain ⟨W0,hW0⟩:=nmq ((w.alloc (.cells #[.slice A l.length c] 145)).alloc (.cells #[.int .i64 s] 3))
 have hB0:Below w.heap.size w W0:=by rw [hW0]; exact ((Below.refl _ w).alloc (Nat.le_refl _) _).alloc (by simp) _
 have ca:W0.cell? ⟨w.heap.size,0,none⟩=some (.slice A l.length c):=by rw [hW0]; exact cell_alloc_sl _ (cell_new_sl w _ _)
 have cx:W0.cell? ⟨w.heap.size+1,0,none⟩=some (.int .i64 s):=by
  rw [hW0]
  have:=cell_new_sl (w.alloc (.cells #[.slice A l.length c] 145)) (.int .i64 s) 3
  rwa [World.size_alloc] at this
 have h0:=h.below hB0
 have eg:∀ args w,(callFunc 164 args).run Tryz.prog w=.ok (.enter 164 args) w:=enters_of Tryz.func164 (by kernel_rfl) rfl
 have hS:=Any.sort_Search searchLays 164 #[.pointer (some ⟨w.heap.size,0,none⟩),.pointer (some ⟨w.heap.size+1,0,none⟩)] l.length (fun i=>decide (s<(l.getD i Ver.Z).seq)) W0 eg (by omega)
  (fun m os i hi=>by
   obtain ⟨b,o,rfl,_,cc,_⟩:=h0.at hi
   exact (xUntil1 w.heap.size (w.heap.size+1) b o c l.length _ s i _ hi (cell_grown (block_lt_of_cell ca) ca m os) (cell_grown (block_lt_of_cell cx) cx m os) (cell_grown (block_lt_of_cell cc) cc m os)).mono
    fun _ _ ⟨he,q,hq⟩=>⟨he,q,#[],by rw [hq,Sort.grow_empty]⟩)
  (fun a b hab hb h=>by
   by_cases e:a=b
   ·rw [<-e]; exact h
   ·have:=hr a b (by omega) hb
    have h:=of_decide_eq_true h
    exact decide_eq_true (by omega))
 rw [count_cnt hr] at hS
 obtain ⟨n,hn⟩:=nmq (l.length)
 rw [<-hn] at hS hW0 ⊢
 have hS:Calls Tryz.prog 163 #[.int .i64 n,.func (.func 164) #[] #[.pointer (some ⟨w.heap.size,0,none⟩),.pointer (some ⟨w.heap.size+1,0,none⟩)]] W0 _:=hS
 have HS:=qh hS
 have HW:=qh hW0
 have HB:=qh hB0
 clear hS hW0 hB0 ca cx h0 eg hn hr h
 go_enter Tryz.func151,Tryz.ntmps151
 go_wp2_with (go_at_call 163; rw [<-HW.out]; refine HS.out.mono ?_; rintro e w' ⟨rfl,q,os,rfl⟩)
 go_ret
 exact ⟨rfl,HB.out.trans (below_grown_sl w.heap.size W0 q os HB.out.size)⟩

theorem GoodL.get {l:List Ver} (h:GoodL l) {i:Nat} (hi:i<l.length):(l.getD i Ver.Z).val.Fits∧(l.getD i Ver.Z).val.txt.size<=1000:=by
 refine ⟨h.fits.get hi,?_⟩
 rw [List.getD_eq_getElem?_getD,List.getElem?_eq_getElem hi]
 exact h.texts _ (List.getElem_mem hi)
theorem zeroF {w:World} {g:Nat} {t:TypeId} (h:RowAt w g Ver.Z.cs t):w.frozen? ⟨g,0,none⟩=false∧w.frozen? ⟨g,1,none⟩=false∧w.frozen? ⟨g,2,none⟩=false∧w.frozen? ⟨g,3,none⟩=false∧w.frozen? ⟨g,4,none⟩=false ∧
  w.cell? ⟨g,0,none⟩=some (.int .i64 0)∧w.cell? ⟨g,1,none⟩=some (.bool false)∧w.cell? ⟨g,2,none⟩=some (.bool false)∧w.cell? ⟨g,3,none⟩=some (.string ⟨#[]⟩)∧w.cell? ⟨g,4,none⟩=some (.int .u64 0) :=
 ⟨h.frozen 0,h.frozen 1,h.frozen 2,h.frozen 3,h.frozen 4,h.cell 0,h.cell 1,h.cell 2,h.cell 3,h.cell 4⟩
theorem verF {w:World} {g:Nat} {t:TypeId} {x:Ver} (h:RowAt w g x.cs t):w.cell? ⟨g,0,none⟩=some (.int .i64 x.seq)∧w.cell? ⟨g,1,none⟩=some (.bool x.gone)∧w.cell? ⟨g,2,none⟩=some (.bool x.val.num)∧w.cell? ⟨g,3,none⟩=some (.string x.val.txt)∧w.cell? ⟨g,4,none⟩=some (.int .u64 (x.val.bits:Int)) :=
 ⟨h.cell 0,h.cell 1,h.cell 2,h.cell 3,h.cell 4⟩
theorem xEnd9 (l:List Ver) (A:Option Addr) (c:Nat) (w:World) (h:SlV w A l) (hg:GoodL l) :
  Calls Tryz.prog 103 #[.slice A l.length c] w fun e w'=>e=.returned (.tuple #[(if decide (0<l.length) then lastL l else Ver.Z).v,.bool (decide (0<l.length))])∧Below w.heap.size w w':=by
 obtain ⟨n,hn⟩:=nmq (l.length)
 obtain ⟨B,hB⟩:=nmq (w.heap.size)
 have hl:=hg.len
 rw [<-hn] at hl ⊢
 rw [<-hB]
 have R0:=RowAt.new w Ver.Z.cs 129
 rw [<-hB] at R0
 have B0:=(show Below B w (w.alloc (.cells Ver.Z.cs.toArray 129)) by rw [hB]; exact (Below.refl _ _).alloc (Nat.le_refl _) _)
 have W0:Below w.heap.size w (w.alloc (.cells Ver.Z.cs.toArray 129)):=by rw [<-hB]; exact B0
 by_cases q:n=0
 ·rw [decide_eq_false (show ¬ 0<n by omega),if_neg (by simp)]
  subst q
  have R0:=qh R0
  have B0:=qh B0
  have HB:=qh hB
  clear hB hn h hg hl W0
  go_enter Tryz.func103,Tryz.ntmps103
  go_wp2_with fail
  rw [<-HB.out]
  refine bodyPost_ret (results_cell_tmp rfl _ (w.alloc (.cells Ver.Z.cs.toArray 129)) B _ _ _ rfl R0.out Tryz.underlying129 rfl (by kernel_rfl)) rfl ?_
  exact ⟨rfl,B0.out⟩
 ·obtain ⟨i,hi⟩:=nmq (n-1)
  have hi':i<l.length:=by omega
  obtain ⟨b,o,rfl,hb,cc⟩:=(h.below W0).at hi'
  have cl:lastL l=l.getD i Ver.Z:=by unfold lastL; rw [<-hn,<-hi]
  obtain ⟨_,xt⟩:=hg.get hi'
  rw [decide_eq_true (show 0<n by omega),if_pos rfl,cl]
  obtain ⟨x,hx⟩:=nmq (l.getD i Ver.Z)
  rw [<-hx] at cc xt ⊢
  have FR:=qh (fun w=>xFresh9 x w xt)
  have FR:Hid (∀ w,Calls Tryz.prog 106 #[.agg #[.int .i64 x.seq,.bool x.gone,.bool x.val.num,.string x.val.txt,.int .u64 (x.val.bits:Int)]] w fun e w'=>e=.returned (.agg #[.int .i64 x.seq,.bool x.gone,.bool x.val.num,.string x.val.txt,.int .u64 (x.val.bits:Int)])∧Below w.heap.size w w'):=FR
  obtain ⟨c0,c1,c2,c3,c4⟩:=cc
  have c0:(w.alloc (.cells #[.int .i64 0,.bool false,.bool false,.string ⟨#[]⟩,.int .u64 0] 129)).cell? ⟨b,o+i * 5,none⟩=some (.int .i64 x.seq):=c0
  have c1:(w.alloc (.cells #[.int .i64 0,.bool false,.bool false,.string ⟨#[]⟩,.int .u64 0] 129)).cell? ⟨b,o+i * 5+1,none⟩=some (.bool x.gone):=c1
  have c2:(w.alloc (.cells #[.int .i64 0,.bool false,.bool false,.string ⟨#[]⟩,.int .u64 0] 129)).cell? ⟨b,o+i * 5+2,none⟩=some (.bool x.val.num):=c2
  have c3:(w.alloc (.cells #[.int .i64 0,.bool false,.bool false,.string ⟨#[]⟩,.int .u64 0] 129)).cell? ⟨b,o+i * 5+3,none⟩=some (.string x.val.txt):=c3
  have c4:(w.alloc (.cells #[.int .i64 0,.bool false,.bool false,.string ⟨#[]⟩,.int .u64 0] 129)).cell? ⟨b,o+i * 5+4,none⟩=some (.int .u64 (x.val.bits:Int)):=c4
  have HB:=qh hB
  have R0:=qh R0
  have B0:=qh B0
  have i2:(0:Int)<=(i:Int):=by omega
  have i3:(i:Int)<(n:Int):=by omega
  have i1:(n:Int)-1=(i:Int):=by omega
  have n0:((n:Int) == 0)=false:=by rw [beq_eq_false_iff_ne]; omega
  clear hB hn h hg W0 hx cl xt hi hi' hb q
  go_enter Tryz.func103,Tryz.ntmps103
  go_wp2_with fail
  rw [<-HB.out]
  refine (FR.out _).mono ?_
  rintro e w1 ⟨rfl,hb1⟩
  have q0:=R0.out.below hb1
  have Q0:=qh q0
  have B1:=qh (show Below B w w1 from B0.out.trans (hb1.mono (by rw [HB.out]; exact B0.out.size)))
  obtain ⟨g0,g1,g2,g3,g4,e0,e1,e2,e3,e4⟩:=zeroF q0
  have F1:=qh (show Below B w (setV w1 B x) from setV_below B1.out (Nat.le_refl _))
  have F2:=qh (show RowAt (setV w1 B x) B x.cs _ from setV_row Q0.out)
  clear hb1 q0 c0 c1 c2 c3 c4
  go_wp2_with fail
  refine bodyPost_ret (results_cell_tmp rfl _ (setV w1 B x) B _ _ _ rfl F2.out Tryz.underlying129 rfl (by kernel_rfl)) rfl ?_
  exact ⟨rfl,F1.out⟩

theorem xRight9 (l:List Ver) (A:Option Addr) (c:Nat) (w:World) (h:SlV w A l) (hg:GoodL l) :
  Calls Tryz.prog 102 #[.slice A l.length c] w fun e w'=>e=.returned (.bool (rightL l))∧Below w.heap.size w w':=by
 obtain ⟨n,hn⟩:=nmq (l.length)
 obtain ⟨R,hR⟩:=nmq (rightL l)
 have hl:=hg.len
 rw [<-hn] at hl
 rw [<-hn,<-hR]
 have HN:=qh hn
 have HR:=qh hR
 have HS:=qh h
 have HG:=qh hg
 clear hn hR h hg
 go_enter Tryz.func102,Tryz.ntmps102
 go_wp2_with fail
 go_loopw [3,8] (fun vp vi wr=>∃ i:Nat,i<=n∧vp=.int .i64 (prevS l i)∧vi=.int .i64 i∧Hid (∀ j,j<i->mayV (prevS l j) (l.getD j Ver.Z)=true)∧Hid (Below w.heap.size w wr)) (fun _ vi _=>n-(intOf vi).toNat)
 case atStart=>exact ⟨0,Nat.zero_le _,rfl,rfl,qh (fun j hj=>by cases hj),qh (Below.refl _ _)⟩
 case round =>
  obtain ⟨i,hi,rfl,rfl,HM,HB⟩:=hrel
  by_cases q:i<n
  ·have hil:i<l.length:=by rw [<-HN.out]; exact q
   obtain ⟨b,o,rfl,hb,c0,c1,c2,c3,c4⟩:=(HS.out.below HB.out).at hil
   have RN:=qh (fun (hm:mayV (prevS l i) (l.getD i Ver.Z)=false)=>show R=false by rw [HR.out]; exact right_no hil hm)
   have PS:=qh (prevS_succ l i)
   have XF:=(HG.out.get hil).1
   obtain ⟨p,hp⟩:=nmq (prevS l i)
   obtain ⟨x,hx⟩:=nmq (l.getD i Ver.Z)
   have HMY:=qh (show mayV p x=true->∀ j,j<i+1->mayV (prevS l j) (l.getD j Ver.Z)=true from fun hm j hj=>by
    by_cases e:j=i
    ·rw [e,<-hp,<-hx]; exact hm
    ·exact HM.out j (by omega))
   rw [<-hx] at c0 c1 c2 c3 c4 RN PS XF
   rw [<-hp] at RN ⊢
   have FO:=qh (fun w=>xFollows9 x p w XF)
   obtain ⟨K,hK⟩:=nmq (mayV p x)
   rw [<-hK] at FO RN HMY
   have FO:Hid (∀ w,Calls Tryz.prog 104 #[.agg #[.int .i64 x.seq,.bool x.gone,.bool x.val.num,.string x.val.txt,.int .u64 (x.val.bits:Int)],.int .i64 p] w fun e w'=>e=.returned (.bool K)∧Below w.heap.size w w'):=FO
   have i0:(0:Int)<=(i:Int):=by omega
   have i1:(i:Int)<(n:Int):=by omega
   have RW:=RowAt.new wr x.cs 129
   have RW:=qh RW
   have AB:=qh (show Below wr.heap.size wr (wr.alloc (.cells x.cs.toArray 129)) from (Below.refl _ _).alloc (Nat.le_refl _) _)
   clear hp hx hK hb XF hil
   go_wp2_with fail
   refine (FO.out _).mono ?_
   rintro e w1 ⟨rfl,hb1⟩
   have e0:=(RW.out.below hb1).cell 0
   simp only [Ver.cs,List.getElem?_cons_zero] at e0
   have hb2:Below wr.heap.size wr w1:=AB.out.trans (hb1.mono AB.out.size)
   have B1:=qh (HB.out.trans (hb2.mono HB.out.size))
   clear hb1 hb2
   cases K with
   | false =>
    go_wp2_with fail
    go_ret
    exact ⟨by rw [RN.out (by simp)]; rfl,B1.out⟩
   | true =>
    go_wp2_with fail
    go_roundw
    case rel=>exact ⟨i+1,by omega,by rw [PS.out],by go_num,qh (HMY.out (by simp)),B1⟩
    case measure=>simp [intOf]; omega
  ·obtain rfl:i=n:=by omega
   have RT:=qh (show R=true by rw [HR.out,rightL_iff]; rw [<-HN.out]; exact HM.out)
   go_wp2_with fail
   go_ret
   exact ⟨by rw [RT.out]; rfl,HB.out⟩
end Go.Proofs.YtoljhoabbaigdaaGreat
