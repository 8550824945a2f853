/- Proved parts: B3r B3s. Conditions: each theorem's own. -/
import Derived.Test.YtomjlopcifafpaaGreatM20
import Derived.Test.YtomjlopcifafpaaGreatM21
import Derived.Deep.Grids
import Derived.Test.YtomjlopcifafpaaGreatQ0
set_option maxRecDepth 100000
set_option maxHeartbeats 8000000
namespace Go.Proofs.YtomjlopcifafpaaGreat
open Go.ChangeShapes Go.WideShapes Go.ChangeAt Go.RowKit Go.Deep

def SlT (w:World) (A:Option Addr) (n:Nat) (B:Nat->Bool):Prop :=
 0<n->∃ b o,A=some ⟨b,o,none⟩∧b<w.heap.size∧∀ j,j<n->w.cell? ⟨b,o+j,none⟩=some (.bool (B j))
theorem SlT.below {w w':World} {A:Option Addr} {n:Nat} {B:Nat->Bool} (h:SlT w A n B) (hb:Below w.heap.size w w'):SlT w' A n B:=fun hn=>by
 obtain ⟨b,o,e,hlt,hc⟩:=h hn
 exact ⟨b,o,e,Nat.lt_of_lt_of_le hlt hb.size,fun j hj=>(hb.cell (p:=⟨b,o+j,none⟩) hlt).trans (hc j hj)⟩
theorem cellsT11:Tryz.prog.cellsOf 4=1:=by kernel_rfl
theorem open_bools11 {H:Type} {enc:TypeId × Value->H} {W:World} {base:Nat} {v:Value} {d:DataW H} {ps:List MemPlace} (hval:Value.okWide Tryz.prog W .any base 26 v)
  (h:DataW.Trod enc Tryz.prog W 0 (fun _=>true) true 26 v d ps) (hlt:∀ x ∈ ps,x.block<W.heap.size) :
  ∃ A c n B,v=.slice A n c∧SlT W A n B∧n<=maxLen:=by
 obtain ⟨a0,len,cap,rfl⟩:=okWide_slice Tryz.underlying26 hval
 obtain ⟨fuel,hf⟩:=h
 rcases open_bools Tryz.underlying26 Tryz.underlying4 cellsT11 hf with ⟨hcs,hx⟩ | ⟨a,len',cap',B,hcs,_,hl,hm,hx,hcell⟩
 ·simp [Value.cells] at hcs
  obtain ⟨rfl,rfl,rfl⟩:=hcs
  exact ⟨none,0,0,fun _=>false,rfl,fun h=>absurd h (by omega),Nat.zero_le _⟩
 ·simp [Value.cells] at hcs
  obtain ⟨rfl,rfl,rfl⟩:=hcs
  simp only [Prod.mk.injEq] at hx
  obtain ⟨_,hps⟩:=hx
  refine ⟨some a,cap,len,B,rfl,fun hp=>?_,by omega⟩
  obtain ⟨b,off,spot⟩:=a
  have hspot:spot=none:=by simpa [Addr.add] using World.cell?_spot (hcell 0 (by omega))
  subst hspot
  refine ⟨b,off,rfl,hlt (.cell b off) (by rw [hps]; exact MemPlace.mem_row.2 ⟨0,by omega,by simp⟩),fun j hj=>?_⟩
  have h1:=hcell j (by omega)
  rwa [add_plain] at h1

namespace Rm
variable {m:Rm} {zs:List Int} {g1 g2 g3:Int}
structure OfS (m:Rm) (zs:List Int) (g1 g2 g3:Int):Prop where
 zs:m.zs=zs
 size:(m.r.size:Int)=g1
 quota:m.quota=g2
 most:m.most=g3
theorem OfS.new {sq:Int} {L:Ch} (h:0<=g1):(Rm.new zs g1 g2 g3 sq L).OfS zs g1 g2 g3:=⟨rfl,by show ((g1.toNat:Nat):Int)=g1; omega,rfl,rfl⟩
theorem OfS.com (h:m.OfS zs g1 g2 g3) (ws:List Wr) (x:Int):(m.com ws x).OfS zs g1 g2 g3:=by
 refine ⟨h.zs,?_,h.quota,h.most⟩
 show (((comR m.r m.L ws x m.quota m.most).size:Nat):Int)=g1
 unfold comR
 split
 ·rw [Rg.push_size]; exact h.size
 ·exact h.size
theorem OfS.sw (h:m.OfS zs g1 g2 g3):m.sw.OfS zs g1 g2 g3:=⟨h.zs,h.size,h.quota,h.most⟩
theorem OfS.step (h:m.OfS zs g1 g2 g3) (a:Ac) (x:Int):(stepM m a x).OfS zs g1 g2 g3:=by
 by_cases k1:a.kind=1
 ·rw [stepM_1 m a x k1]; exact h.com _ _
 ·by_cases k2:a.kind=2
  ·rw [stepM_2 m a x k2]; exact h.sw
  ·rw [stepM_0 m a x k1 k2]; exact h
theorem Ok.seq_le (ok:m.Ok):m.seq<=1073741824:=by have:=ok.r.sq; unfold Rm.seq; omega
end Rm

end Go.Proofs.YtomjlopcifafpaaGreat

namespace Go.Proofs.YtomjlopcifafpaaGreat
open Go.RowKit

section
variable {w0 w:World} {N:Nat->Prop} {os:List Ob} {R:RelM}
theorem rfoot_none {q k:Nat} (h:rfoot q (.slice none 0 0) k):k=q:=by
 rcases h with e | e
 ·exact e
 ·cases e
theorem mNew (h:Side w0 N w os) (lb:Value) (zs:List Int) (g1 s0:Nat) (g2 g3:Int) :
  Calls Tryz.prog 9 #[.agg #[lb,.int .i64 (g1:Int),.int .i64 g2,.int .i64 g3],.int .i64 (s0:Int)] w fun e w' =>
   ∃ x,e=.returned (PtrM x)∧Side w0 N w' (os++[obM x (Rm.new zs (g1:Int) g2 g3 (s0:Int) [])]):=by
 refine (rNew1 lb g1 s0 g2 g3 w).mono fun e w' ⟨x,q,e1,x1,q1,hr,sp,hb⟩=>⟨x,e1,?_⟩
 refine h.more hb (o:=obM x (Rm.new zs (g1:Int) g2 g3 (s0:Int) [])) (F':=fun k=>k=x∨rfoot q (.slice none 0 0) k∨False) ⟨q,_,_,fun _=>False,none,0,fun k=>Iff.rfl,hr,sp⟩ fun k e=>?_
 rcases e with e | e | e
 ·omega
 ·have:=rfoot_none e; omega
 ·exact e.elim
theorem pNew (X:RoomLo R) (h:Side w0 N w os) (A:Option Addr) (c:Nat) (zs:List Int) (g1 g2 g3:Int) (hs:Sl w A zs) (hm:zs.length<=1000) (hu:La.U64 zs) :
  Calls Tryz.prog 8 #[.agg #[.slice A zs.length c,.int .i64 g1,.int .i64 g2,.int .i64 g3]] w fun e w' =>
   (stOk zs g1 g2 g3=false∧e=.returned (.tuple #[.pointer none,.int .i64 1])∧Side w0 N w' os) ∨
    (stOk zs g1 g2 g3=true∧∃ b,e=.returned (.tuple #[PtrM b,.int .i64 0])∧Side w0 N w' (os++[obP X b (Rm.new zs g1 g2 g3 0 [])])):=by
 refine (X.new A c zs g1 g2 g3 w hs hm hu).mono fun e w' ⟨hb,r⟩=>?_
 rcases r with ⟨n,b,F,e1,hr,hF⟩ | ⟨n,e1⟩
 ·exact .inr ⟨n,b,e1,h.more hb (o:=obP X b (Rm.new zs g1 g2 g3 0 [])) hr hF⟩
 ·exact .inl ⟨n,e1,h.below hb⟩
end

end Go.Proofs.YtomjlopcifafpaaGreat
