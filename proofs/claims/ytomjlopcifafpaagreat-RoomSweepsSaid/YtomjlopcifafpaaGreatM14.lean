/- Proved parts: B1t. Conditions: each theorem's own. -/
import Derived.Test.YtomjlopcifafpaaGreatM13
import Derived.BigQuiet
import Derived.StillTailTactics
import Derived.Test.YtomjlopcifafpaaGreatQ2
set_option maxRecDepth 100000
set_option maxHeartbeats 8000000
namespace Go.Proofs.YtomjlopcifafpaaGreat
open Go.RowKit

def SlWr (w:World) (A:Option Addr) (l:List Wr):Prop :=
 0<l.length->∃ b o,A=some ⟨b,o,none⟩∧b<w.heap.size∧∀ j,j<l.length →
  w.cell? ⟨b,o+j * 5,none⟩=some (.string (l.getD j Wr.Z).key)∧w.cell? ⟨b,o+j * 5+1,none⟩=some (.bool (l.getD j Wr.Z).gone)∧w.cell? ⟨b,o+j * 5+2,none⟩=some (.bool (l.getD j Wr.Z).val.num) ∧
  w.cell? ⟨b,o+j * 5+3,none⟩=some (.string (l.getD j Wr.Z).val.txt)∧w.cell? ⟨b,o+j * 5+4,none⟩=some (.int .u64 ((l.getD j Wr.Z).val.bits:Int))
theorem SlWr.below {w w':World} {A:Option Addr} {l:List Wr} (h:SlWr w A l) (hb:Below w.heap.size w w'):SlWr w' A l:=fun hp=>by
 obtain ⟨b,o,e,hl,hc⟩:=h hp
 refine ⟨b,o,e,Nat.lt_of_lt_of_le hl hb.size,fun j hj=>?_⟩
 obtain ⟨c0,c1,c2,c3,c4⟩:=hc j hj
 exact ⟨(hb.cell (p:=⟨b,o+j * 5,none⟩) hl).trans c0,(hb.cell (p:=⟨b,o+j * 5+1,none⟩) hl).trans c1,(hb.cell (p:=⟨b,o+j * 5+2,none⟩) hl).trans c2,(hb.cell (p:=⟨b,o+j * 5+3,none⟩) hl).trans c3,(hb.cell (p:=⟨b,o+j * 5+4,none⟩) hl).trans c4⟩
theorem SlWr.at {w:World} {A:Option Addr} {l:List Wr} (h:SlWr w A l) {j:Nat} (hj:j<l.length):∃ b o,A=some ⟨b,o,none⟩∧b<w.heap.size ∧
  w.cell? ⟨b,o+j * 5,none⟩=some (.string (l.getD j Wr.Z).key)∧w.cell? ⟨b,o+j * 5+1,none⟩=some (.bool (l.getD j Wr.Z).gone)∧w.cell? ⟨b,o+j * 5+2,none⟩=some (.bool (l.getD j Wr.Z).val.num) ∧
  w.cell? ⟨b,o+j * 5+3,none⟩=some (.string (l.getD j Wr.Z).val.txt)∧w.cell? ⟨b,o+j * 5+4,none⟩=some (.int .u64 ((l.getD j Wr.Z).val.bits:Int)):=by
 obtain ⟨b,o,e,hl,hc⟩:=h (by omega)
 exact ⟨b,o,e,hl,hc j hj⟩
theorem SlO.bound {w:World} {G:Nat->Prop} {A:Option Addr} {L:Ch} (h:SlO w G A L):SlO w (fun x=>G x∧x<w.heap.size) A L:=fun hp=>by
 obtain ⟨b,o,e,hg,hl,hc⟩:=h hp
 refine ⟨b,o,e,⟨hg,hl⟩,hl,fun j hj=>?_⟩
 obtain ⟨c0,A',c,c1,s⟩:=hc j hj
 refine ⟨c0,A',c,c1,s.1,fun hp=>?_⟩
 obtain ⟨g,o',e',q⟩:=s.2 hp
 obtain ⟨b',_,e2,hl2,_⟩:=s.1 hp
 rw [e'] at e2
 injection e2 with e2
 injection e2 with e2 _ _
 exact ⟨g,o',e',q,by omega⟩
theorem withW_succ (L:Ch) (l:List Wr) (q:Int) {i:Nat} (hi:i<l.length):L.withW (l.take (i+1)) q=(L.withW (l.take i) q).put (l.getD i Wr.Z).key ((l.getD i Wr.Z).ver q):=by
 unfold Ch.withW
 rw [List.take_succ_eq_append_getElem hi,List.foldl_append,List.getD_eq_getElem?_getD,List.getElem?_eq_getElem hi]
 rfl

theorem rWith1 (p:Nat) (G:Nat->Prop) (A:Option Addr) (c:Nat) (L:Ch) (lb:Value) (g1 g2 g3:Int) (rp:Nat) (A2:Option Addr) (c2:Nat) (ws:List Wr) (q:Int) (w:World)
  (hr:RowAt w p [lb,.int .i64 g1,.int .i64 g2,.int .i64 g3,.pointer (some ⟨rp,0,none⟩),.slice A L.length c] 106) (hs:SlO w G A L) (hw:SlWr w A2 ws) (hl:ws.length<=1000)
  (hg:∀ i,i<=ws.length->GoodC (L.withW (ws.take i) q)∧(L.withW (ws.take i) q).length<=10000) (hG:∀ x,G x->x<w.heap.size) :
  Calls Tryz.prog 82 #[.pointer (some ⟨p,0,none⟩),.slice A2 ws.length c2,.int .i64 q] w fun e w'=>∃ x A' c',e=.returned (.pointer (some ⟨x,0,none⟩))∧w.heap.size<=x ∧
   RowAt w' x [lb,.int .i64 g1,.int .i64 g2,.int .i64 g3,.pointer (some ⟨rp,0,none⟩),.slice A' (L.withW ws q).length c'] 106∧SlO w' (fun y=>G y∨x<y) A' (L.withW ws q)∧Below w.heap.size w w':=by
 obtain ⟨n,hn⟩:=nmq (ws.length)
 obtain ⟨B,hB⟩:=nmq (w.heap.size)
 obtain ⟨N,hN⟩:=nmq (L.length)
 rw [<-hN] at hr
 have c0:=hr.cell 0
 have c1:=hr.cell 1
 have c2':=hr.cell 2
 have c3:=hr.cell 3
 have c4:=hr.cell 4
 have c5:=hr.cell 5
 simp only [geS] at c0 c1 c2' c3 c4 c5
 rw [<-hn,<-hB]
 have r1:=RowAt.new w [lb,.int .i64 g1,.int .i64 g2,.int .i64 g3,.pointer (some ⟨rp,0,none⟩),.slice A N c] 106
 have b1:Below B w (w.alloc (.cells #[lb,.int .i64 g1,.int .i64 g2,.int .i64 g3,.pointer (some ⟨rp,0,none⟩),.slice A N c] 106)).drew:=by rw [hB]; exact ((Below.refl w.heap.size w).alloc (Nat.le_refl _) _).drew
 have s1:SlO (w.alloc (.cells #[lb,.int .i64 g1,.int .i64 g2,.int .i64 g3,.pointer (some ⟨rp,0,none⟩),.slice A N c] 106)).drew (fun y=>(G y∨B<y)∧y<(w.alloc (.cells #[lb,.int .i64 g1,.int .i64 g2,.int .i64 g3,.pointer (some ⟨rp,0,none⟩),.slice A N c] 106)).drew.heap.size) A L :=
  ((hs.keep (fun k e=>b1.block k (by rw [hB]; exact hG k e)) b1.size).mono (fun k e=>.inl e)).bound
 have r1:RowAt (w.alloc (.cells #[lb,.int .i64 g1,.int .i64 g2,.int .i64 g3,.pointer (some ⟨rp,0,none⟩),.slice A N c] 106)).drew B [lb,.int .i64 g1,.int .i64 g2,.int .i64 g3,.pointer (some ⟨rp,0,none⟩),.slice A N c] 106:=by rw [hB]; exact r1
 have HN:=qh hn
 have HB:=qh hB
 have HW:=qh hw
 have HG:=qh (show ∀ x,G x->x<B from fun x e=>by rw [hB]; exact hG x e)
 have GW:=qh (show ∀ i,i<=n->GoodC (L.withW (ws.take i) q)∧(L.withW (ws.take i) q).length<=10000 from fun i hi=>hg i (by omega))
 have R1:=qh r1
 have B1:=qh b1
 have S1:=qh s1
 have HN2:=qh hN
 rw [<-hn] at hl
 clear hs hw hg hG hn hB hr r1 b1 s1 hN
 go_enter Tryz.func82,Tryz.ntmps82
 go_wp2_with fail
 go_still_tail 13,(by kernel_rfl)
 change wpList _ _ _ _ _ w.drew
 go_wp2_with fail
 rw [<-HB.out]
 clear c0 c1 c2' c3 c4 c5
 generalize (w.alloc (.cells #[lb,.int .i64 g1,.int .i64 g2,.int .i64 g3,.pointer (some ⟨rp,0,none⟩),.slice A N c] 106)).drew=w0 at R1 B1 S1 ⊢
 go_loopw [8] (fun vi wr=>∃ (i:Nat) (A':Option Addr) (c':Nat),i<=n∧vi=.int .i64 i∧Hid (RowAt wr B [lb,.int .i64 g1,.int .i64 g2,.int .i64 g3,.pointer (some ⟨rp,0,none⟩),.slice A' (L.withW (ws.take i) q).length c'] 106) ∧
  Hid (SlO wr (fun y=>(G y∨B<y)∧y<wr.heap.size) A' (L.withW (ws.take i) q))∧Hid (Below B w wr)) (fun vi _=>n+1-(intOf vi).toNat)
 case atStart=>exact ⟨0,A,c,Nat.zero_le _,rfl,by rw [List.take_zero]; show Hid (RowAt w0 B [lb,.int .i64 g1,.int .i64 g2,.int .i64 g3,.pointer (some ⟨rp,0,none⟩),.slice A L.length c] _); rw [<-HN2.out]; exact R1,by rw [List.take_zero]; exact S1,B1⟩
 case round =>
  obtain ⟨i,A',c',hi,rfl,HR,HS,HL⟩:=hrel
  by_cases z:i<n
  ·have hw:Below w.heap.size w wr:=by rw [<-HB.out]; exact HL.out
   obtain ⟨b,o,rfl,hb,k0,k1,k2,k3,k4⟩:=HW.out.at (j:=i) (by rw [<-HN.out]; exact z)
   have k0:=(hw.cell (p:=⟨b,o+i * 5,none⟩) hb).trans k0
   have k1:=(hw.cell (p:=⟨b,o+i * 5+1,none⟩) hb).trans k1
   have k2:=(hw.cell (p:=⟨b,o+i * 5+2,none⟩) hb).trans k2
   have k3:=(hw.cell (p:=⟨b,o+i * 5+3,none⟩) hb).trans k3
   have k4:=(hw.cell (p:=⟨b,o+i * 5+4,none⟩) hb).trans k4
   have ES:=qh (withW_succ L ws q (i:=i) (by rw [<-HN.out]; exact z))
   obtain ⟨g5,g6⟩:=GW.out i hi
   have c5:=HR.out.cell 5
   simp only [geS] at c5
   have CP:=qh (rPut1 B (fun y=>(G y∨B<y)∧y<wr.heap.size) A' c' (L.withW (ws.take i) q) (ws.getD i Wr.Z).key ((ws.getD i Wr.Z).ver q) wr.drew c5 (HR.out.frozen 5) (HS.out.keep (fun _ _=>rfl) (Nat.le_refl _)) g5 (fun x e=>e.2) HR.out.lt g6)
   obtain ⟨y,hy⟩:=nmq (ws.getD i Wr.Z)
   rw [<-hy] at k0 k1 k2 k3 k4 CP ES
   obtain ⟨M,hM⟩:=nmq ((L.withW (ws.take i) q).put y.key (y.ver q))
   rw [<-hM] at CP ES
   obtain ⟨yk,yg,yv⟩:=y
   obtain ⟨ym,yt,yb⟩:=yv
   change wr.cell? _=some (.string yk) at k0
   change wr.cell? _=some (.bool yg) at k1
   change wr.cell? _=some (.bool ym) at k2
   change wr.cell? _=some (.string yt) at k3
   change wr.cell? _=some (.int .u64 (yb:Int)) at k4
   have CP:Hid (Calls Tryz.prog 131 #[.pointer (some ⟨B,0,none⟩),.string yk,.agg #[.int .i64 q,.bool yg,.bool ym,.string yt,.int .u64 (yb:Int)]] wr.drew _):=CP
   have i0:(0:Int)<=(i:Int):=by omega
   have i1:(i:Int)<(n:Int):=by omega
   clear hy hM hb hw g5 g6 c5
   go_wp2_with fail
   go_still_tail 18,(by kernel_rfl)
   change wpList _ _ _ _ _ wr.drew
   go_wp2_with fail
   refine CP.out.mono ?_
   rintro e w2 ⟨rfl,A3,c3,w3,rfl,hb3,hs3⟩
   have HB3:=qh hb3
   have HS3:=qh hs3
   have r3:RowAt w3 B _ _:=(hb3.block B HR.out.lt).trans HR.out
   have R4:=qh (r3.set 5 (.slice A3 M.length c3))
   have B4:=qh ((HL.out.trans (hb3.mono (show B<=wr.drew.heap.size from Nat.le_of_lt HR.out.lt) |> (fun h=>(⟨h.os,h.tape,h.output,h.size,h.block⟩:Below B wr w3)))).setCell (p:=⟨B,5,none⟩) (Nat.le_refl _) (.slice A3 M.length c3))
   have S4:=qh (show SlO (w3.setCell ⟨B,5,none⟩ (.slice A3 M.length c3)) (fun y=>(G y∨B<y)∧y<(w3.setCell ⟨B,5,none⟩ (.slice A3 M.length c3)).heap.size) A3 M from
    ((HS3.out.keep (fun k e=>Below.heap_setCell _ _ _ _ (show k≠B by
     rcases e with e | e
     ·rcases e.1 with e | e
      ·have:=HG.out k e; omega
      ·omega
     ·have:=HR.out.lt; have:wr.drew.heap.size=wr.heap.size:=rfl; omega)) (by simp [World.setCell])).mono (fun k e=>by
     rcases e with e | e
     ·exact e.1
     ·refine .inr ?_
      have:=HR.out.lt
      have:wr.drew.heap.size=wr.heap.size:=rfl
      omega)).bound)
   clear hb3 hs3 r3
   go_wp2_with fail
   go_roundw
   case rel=>exact ⟨i+1,A3,c3,by omega,by go_num,by rw [ES.out]; exact R4,by rw [ES.out]; exact S4,B4⟩
   case measure=>simp [intOf]; omega
  ·obtain rfl:i=n:=by omega
   have hr:=HR.out
   have hs:=HS.out
   rw [HN.out,List.take_length] at hr hs
   go_wp2_with fail
   go_ret
   exact ⟨B,A',c',rfl,Nat.le_refl _,hr,hs.mono (fun k e=>e.1),HL.out⟩

end Go.Proofs.YtomjlopcifafpaaGreat
