/- Proved parts: B3i B3j. Conditions: each theorem's own. -/
import Derived.Test.YtomjlopcifafpaaGreatM20
import Derived.Test.YtomjlopcifafpaaGreatM22
import Derived.Test.YtomjlopcifafpaaGreatQ0
set_option maxRecDepth 100000
set_option maxHeartbeats 8000000
namespace Go.Proofs.YtomjlopcifafpaaGreat
open Go.Joins Go.ChangeShapes Go.WideShapes Go.ChangeAt Go.RowKit

theorem cellsWr:Tryz.prog.cellsOf 86=5:=by kernel_rfl
theorem cellsWrs:Tryz.prog.cellsOf 35=1:=by kernel_rfl
theorem cellsA11:Tryz.prog.cellsOf 37=5:=by kernel_rfl
theorem cellsU8:Tryz.prog.cellsOf 5=1:=by kernel_rfl
theorem read_val {H:Type} {enc:TypeId × Value->H} {W:World} {fuel:Nat} {c2 c3 c4:Value} {x:DataW H × List MemPlace}
  (h:DataW.trod enc Tryz.prog W 0 (fun _=>true) true fuel 45 [c2,c3,c4]=some x):∃ y:Val,y.Fits∧c2=.bool y.num∧c3=.string y.txt∧c4=.int .u64 (y.bits:Int):=by
 obtain ⟨zs,n'',_,hz,_,hzl,hg⟩:=DataW.trod_struct Tryz.underlying45 h
 obtain ⟨z0,z1,z2,rfl⟩:=three_of9 (show zs.length=3 from hzl)
 have g0:DataW.trod enc Tryz.prog W 0 (fun _=>true) true n'' 4 (([c2,c3,c4].drop 0).take (Tryz.prog.cellsOf 4))=some z0:=hg 0 _ rfl
 have g1:DataW.trod enc Tryz.prog W 0 (fun _=>true) true n'' 9 (([c2,c3,c4].drop 1).take (Tryz.prog.cellsOf 9))=some z1:=hg 1 _ rfl
 have g2:DataW.trod enc Tryz.prog W 0 (fun _=>true) true n'' 34 (([c2,c3,c4].drop 2).take (Tryz.prog.cellsOf 34))=some z2:=hg 2 _ rfl
 rw [cells9b] at g0
 rw [cells9s] at g1
 rw [cells9u] at g2
 obtain ⟨m,e2,_⟩:=DataW.trod_bool Tryz.underlying4 g0
 obtain ⟨t,e3,_,w3⟩:=DataW.trod_string Tryz.underlying9 g1
 obtain ⟨k,e4,_,w4⟩:=DataW.trod_int Tryz.underlying34 g2
 simp at e2 e3 e4
 have hb:=bounds_u64 w4
 refine ⟨⟨m,t,k.toNat⟩,⟨by show k.toNat<_; omega,w3⟩,e2,e3,?_⟩
 rw [e4]
 show _=Value.int .u64 ((k.toNat:Nat):Int)
 rw [Int.toNat_of_nonneg hb.1]
theorem read_wr {H:Type} {enc:TypeId × Value->H} {W:World} {fuel:Nat} {c0 c1 c2 c3 c4:Value} {x:DataW H × List MemPlace}
  (h:DataW.trod enc Tryz.prog W 0 (fun _=>true) true fuel 86 [c0,c1,c2,c3,c4]=some x):∃ y:Wr,(y.key.size<=maxLen∧y.val.Fits)∧[c0,c1,c2,c3,c4]=y.cs:=by
 obtain ⟨ys,n',_,hy,_,hyl,hf⟩:=DataW.trod_struct Tryz.underlying86 h
 obtain ⟨y0,y1,y2,rfl⟩:=three_of9 (show ys.length=3 from hyl)
 have f0:DataW.trod enc Tryz.prog W 0 (fun _=>true) true n' 9 (([c0,c1,c2,c3,c4].drop 0).take (Tryz.prog.cellsOf 9))=some y0:=hf 0 _ rfl
 have f1:DataW.trod enc Tryz.prog W 0 (fun _=>true) true n' 4 (([c0,c1,c2,c3,c4].drop 1).take (Tryz.prog.cellsOf 4))=some y1:=hf 1 _ rfl
 have f2:DataW.trod enc Tryz.prog W 0 (fun _=>true) true n' 45 (([c0,c1,c2,c3,c4].drop 2).take (Tryz.prog.cellsOf 45))=some y2:=hf 2 _ rfl
 rw [cells9s] at f0
 rw [cells9b] at f1
 rw [cells9l] at f2
 obtain ⟨k,e0,_,w0⟩:=DataW.trod_string Tryz.underlying9 f0
 obtain ⟨g,e1,_⟩:=DataW.trod_bool Tryz.underlying4 f1
 obtain ⟨v,hv,e2,e3,e4⟩:=read_val (show DataW.trod enc Tryz.prog W 0 (fun _=>true) true n' 45 [c2,c3,c4]=some y2 from f2)
 simp at e0 e1
 exact ⟨⟨k,g,v⟩,⟨w0,hv⟩,by rw [e0,e1,e2,e3,e4]; rfl⟩
theorem read_rows {α:Type} (cs:α->List Value) (Z:α) (G:α->Prop) {H:Type} {enc:TypeId × Value->H} {W:World} {fuel:Nat} {ts t:TypeId} {us:List Value} {x:DataW H × List MemPlace} (hu:Tryz.prog.underlying ts=some (.slice t)) (hc:Tryz.prog.cellsOf t=5)
  (one:∀ {fuel:Nat} {c0 c1 c2 c3 c4:Value} {x:DataW H × List MemPlace},DataW.trod enc Tryz.prog W 0 (fun _=>true) true fuel t [c0,c1,c2,c3,c4]=some x->∃ y:α,G y∧[c0,c1,c2,c3,c4]=cs y)
  (h:DataW.trod enc Tryz.prog W 0 (fun _=>true) true fuel ts us=some x) :
  ∃ (A:Option Addr) (c:Nat) (xs:List α),us=[.slice A xs.length c]∧(0<xs.length->∃ b o,A=some ⟨b,o,none⟩∧b<W.heap.size∧∀ j,j<xs.length->∀ i,i<5->W.cell? ⟨b,o+j * 5+i,none⟩=(cs (xs.getD j Z))[i]?)∧(∀ y,y ∈ xs->G y)∧xs.length<=maxLen:=by
 rcases Deep.open_slice hu h with ⟨hcs,_⟩ | ⟨a,len,cap,m,n,D,Pl,hcs,_,hl,hm,hmm,hx,hi⟩
 ·exact ⟨none,0,[],hcs,fun hp=>absurd hp (by simp),fun x hx=>(by cases hx),by simp⟩
 ·simp only [if_true] at hmm
  subst hmm
  have hone:∀ i,i<m->∃ y:α,G y∧∀ j,j<5->W.cell? ((a.add (i * 5)).add j)=(cs y)[j]?:=by
   intro i him
   obtain ⟨cs',hc',ht'⟩:=hi i him
   rw [hc] at hc'
   obtain ⟨_,hcl,hat⟩:=World.cells?_some hc'
   obtain ⟨c0,c1,c2,c3,c4,rfl⟩:=five_of9 hcl
   obtain ⟨y,hf,hy⟩:=one ht'
   refine ⟨y,hf,fun j hj=>?_⟩
   rw [hat j hj,<-hy]
  obtain ⟨F,hF⟩:∃ F:Nat->α,∀ i,i<m->G (F i)∧∀ j,j<5->W.cell? ((a.add (i * 5)).add j)=(cs (F i))[j]?:=by
   refine ⟨fun i=>if h:i<m then (hone i h).choose else Z,fun i h=>?_⟩
   simp only [dif_pos h]
   exact (hone i h).choose_spec
  have hlen:((List.range len).map F).length=len:=by simp
  have hget:∀ j,j<len->((List.range len).map F).getD j Z=F j:=fun j hj=>by
   rw [List.getD_eq_getElem?_getD,List.getElem?_map,List.getElem?_range hj]; rfl
  refine ⟨some a,m,(List.range len).map F,by rw [hlen]; exact hcs,fun hp=>?_,fun y hy=>?_,by rw [hlen]; omega⟩
  ·rw [hlen] at hp
   obtain ⟨cs',hc',ht'⟩:=hi 0 (by omega)
   rw [hc] at hc'
   obtain ⟨_,hcl,hat⟩:=World.cells?_some hc'
   have h2:=hat 0 (by decide)
   rw [List.getElem?_eq_getElem (by omega)] at h2
   have h3:a.block<W.heap.size:=by
    have:=World.block_lt_of_cell? W _ h2
    simpa [Addr.add] using this
   obtain ⟨b,off,spot⟩:=a
   have hspot:spot=none:=by simpa [Addr.add] using World.cell?_spot h2
   subst hspot
   refine ⟨b,off,rfl,h3,fun j hj i hi=>?_⟩
   rw [hlen] at hj
   rw [hget j hj]
   have q:=(hF j (by omega)).2 i hi
   rwa [add9,add9] at q
  ·obtain ⟨i,hi2,rfl⟩:=List.mem_map.1 hy
   exact (hF i (by have:=List.mem_range.1 hi2; omega)).1
theorem read_wrs {H:Type} {enc:TypeId × Value->H} {W:World} {fuel:Nat} {us:List Value} {x:DataW H × List MemPlace}
  (h:DataW.trod enc Tryz.prog W 0 (fun _=>true) true fuel 35 us=some x):∃ A c ws,us=[.slice A ws.length c]∧SlWr W A ws∧InW ws∧ws.length<=maxLen∧(0<ws.length->∀ a,A=some a->a.block<W.heap.size):=by
 obtain ⟨A,c,xs,e,h1,h2,h3⟩:=read_rows Wr.cs Wr.Z (fun y=>y.key.size<=maxLen∧y.val.Fits) Tryz.underlying35 cellsWr (fun h=>read_wr h) h
 refine ⟨A,c,xs,e,fun hp=>?_,h2,h3,fun hp a ea=>?_⟩
 ·obtain ⟨b,o,e,hl,hd⟩:=h1 hp
  exact ⟨b,o,e,hl,fun j hj=>⟨hd j hj 0 (by decide),hd j hj 1 (by decide),hd j hj 2 (by decide),hd j hj 3 (by decide),hd j hj 4 (by decide)⟩⟩
 ·obtain ⟨b,o,e,hl,_⟩:=h1 hp
  rw [e] at ea
  injection ea with ea
  rw [<-ea]; exact hl
structure AcM where
 a:Ac
 A:Option Addr
 c:Nat
def AcM.cs (y:AcM):List Value:=[.int .i64 y.a.kind,.slice y.A y.a.ws.length y.c,.int .u8 y.a.by_,.int .i64 y.a.seq,.string y.a.key]
def AcM.Z:AcM:=⟨⟨0,[],0,0,⟨#[]⟩⟩,none,0⟩
def AcM.Ok (W:World) (y:AcM):Prop:=SlWr W y.A y.a.ws∧InW y.a.ws∧y.a.ws.length<=maxLen∧(0<y.a.ws.length->∀ a,y.A=some a->a.block<W.heap.size)∧0<=y.a.by_∧y.a.by_<=255∧y.a.key.size<=maxLen
theorem read_act {H:Type} {enc:TypeId × Value->H} {W:World} {fuel:Nat} {c0 c1 c2 c3 c4:Value} {x:DataW H × List MemPlace}
  (h:DataW.trod enc Tryz.prog W 0 (fun _=>true) true fuel 37 [c0,c1,c2,c3,c4]=some x):∃ y:AcM,y.Ok W∧[c0,c1,c2,c3,c4]=y.cs:=by
 obtain ⟨ys,n',_,hy,_,hyl,hf⟩:=DataW.trod_struct Tryz.underlying37 h
 obtain ⟨y0,y1,y2,y3,y4,rfl⟩:=five_of9 (show ys.length=5 from hyl)
 have f0:DataW.trod enc Tryz.prog W 0 (fun _=>true) true n' 3 (([c0,c1,c2,c3,c4].drop 0).take (Tryz.prog.cellsOf 3))=some y0:=hf 0 _ rfl
 have f1:DataW.trod enc Tryz.prog W 0 (fun _=>true) true n' 35 (([c0,c1,c2,c3,c4].drop 1).take (Tryz.prog.cellsOf 35))=some y1:=hf 1 _ rfl
 have f2:DataW.trod enc Tryz.prog W 0 (fun _=>true) true n' 5 (([c0,c1,c2,c3,c4].drop 2).take (Tryz.prog.cellsOf 5))=some y2:=hf 2 _ rfl
 have f3:DataW.trod enc Tryz.prog W 0 (fun _=>true) true n' 3 (([c0,c1,c2,c3,c4].drop 3).take (Tryz.prog.cellsOf 3))=some y3:=hf 3 _ rfl
 have f4:DataW.trod enc Tryz.prog W 0 (fun _=>true) true n' 9 (([c0,c1,c2,c3,c4].drop 4).take (Tryz.prog.cellsOf 9))=some y4:=hf 4 _ rfl
 rw [cells9j] at f0 f3
 rw [cellsWrs] at f1
 rw [cellsU8] at f2
 rw [cells9s] at f4
 obtain ⟨kd,e0,_,_⟩:=DataW.trod_int Tryz.underlying3 f0
 obtain ⟨A,c,ws,e1,sl,iw,ln,hA⟩:=read_wrs f1
 obtain ⟨b,e2,_,w2⟩:=DataW.trod_int Tryz.underlying5 f2
 obtain ⟨q,e3,_,_⟩:=DataW.trod_int Tryz.underlying3 f3
 obtain ⟨k,e4,_,w4⟩:=DataW.trod_string Tryz.underlying9 f4
 simp at e0 e1 e2 e3 e4
 have hb:=bounds_u8 w2
 exact ⟨⟨⟨kd,ws,b,q,k⟩,A,c⟩,⟨sl,iw,ln,hA,hb.1,hb.2,w4⟩,by rw [e0,e1,e2,e3,e4]; rfl⟩
def SlAct (w:World) (A:Option Addr) (l:List AcM):Prop :=
 0<l.length->∃ b o,A=some ⟨b,o,none⟩∧b<w.heap.size∧∀ j,j<l.length->∀ i,i<5->w.cell? ⟨b,o+j * 5+i,none⟩=(l.getD j AcM.Z).cs[i]?
theorem read_acts11 {H:Type} {enc:TypeId × Value->H} {W:World} {fuel:Nat} {us:List Value} {x:DataW H × List MemPlace}
  (h:DataW.trod enc Tryz.prog W 0 (fun _=>true) true fuel 25 us=some x):∃ A c l,us=[.slice A l.length c]∧SlAct W A l∧(∀ y,y ∈ l->y.Ok W)∧l.length<=maxLen :=
 read_rows AcM.cs AcM.Z (AcM.Ok W) Tryz.underlying25 cellsA11 (fun h=>read_act h) h
theorem open_acts11 {H:Type} {enc:TypeId × Value->H} {W:World} {base:Nat} {v:Value} {D:DataW H} {ps:List MemPlace} (hval:Value.okWide Tryz.prog W .any base 25 v)
  (h:DataW.Trod enc Tryz.prog W 0 (fun _=>true) true 25 v D ps):∃ A c l,v=.slice A l.length c∧SlAct W A l∧(∀ y,y ∈ l->y.Ok W)∧l.length<=maxLen:=by
 obtain ⟨a0,len,cap,rfl⟩:=okWide_slice Tryz.underlying25 hval
 obtain ⟨fuel,hf⟩:=h
 obtain ⟨A,c,xs,hcs,r⟩:=read_acts11 hf
 simp [Value.cells] at hcs
 obtain ⟨rfl,rfl,rfl⟩:=hcs
 exact ⟨_,_,xs,rfl,r⟩
theorem cellsU64s:Tryz.prog.cellsOf 22=1:=by kernel_rfl
theorem cellsRoom:Tryz.prog.cellsOf 24=4:=by kernel_rfl
theorem four_of11 {α:Type} {l:List α} (h:l.length=4):∃ a b c d,l=[a,b,c,d]:=by
 match l,h with
 | [a,b,c,d],_=>exact ⟨a,b,c,d,rfl⟩
theorem read_u64s {H:Type} {enc:TypeId × Value->H} {W:World} {fuel:Nat} {us:List Value} {x:DataW H × List MemPlace}
  (h:DataW.trod enc Tryz.prog W 0 (fun _=>true) true fuel 22 us=some x):∃ A c zs,us=[.slice A zs.length c]∧Sl W A zs∧La.U64 zs∧zs.length<=maxLen:=by
 rcases open_ints Tryz.underlying22 Tryz.underlying34 cellsU h with ⟨hcs,hx⟩ | ⟨a,len',cap',zs,hcs,_,hl,hm,hz,hx,hcell,hwz⟩
 ·exact ⟨none,0,[],hcs,Sl.nil _ _,La.U64.nil,Nat.zero_le _⟩
 ·simp only [if_true] at hz
  have hl2:(zs.take len').length=len':=by rw [List.length_take]; omega
  refine ⟨some a,cap',zs.take len',by rw [hl2]; exact hcs,fun hp=>?_,fun n hn=>?_,by rw [hl2]; omega⟩
  ·rw [hl2] at hp
   have h0:=hcell 0 (by omega)
   have h3:a.block<W.heap.size:=by
    have:=World.block_lt_of_cell? W _ h0
    simpa [Addr.add] using this
   obtain ⟨b,off,spot⟩:=a
   have hspot:spot=none:=by simpa [Addr.add] using World.cell?_spot h0
   subst hspot
   refine ⟨b,off,rfl,h3,fun j hj=>?_⟩
   rw [hl2] at hj
   have h1:=hcell j (by omega)
   rw [add9] at h1
   rw [h1]
   simp only [List.getD]
   rw [List.getElem?_take,if_pos hj]
  ·have:=bounds_u64 (hwz n (List.mem_of_mem_take hn))
   omega
theorem open_room {H:Type} {enc:TypeId × Value->H} {W:World} {base:Nat} {v:Value} {D:DataW H} {ps:List MemPlace} (hval:Value.okWide Tryz.prog W .any base 24 v)
  (h:DataW.Trod enc Tryz.prog W 0 (fun _=>true) true 24 v D ps):∃ A c zs g1 g2 g3,v=.agg #[.slice A zs.length c,.int .i64 g1,.int .i64 g2,.int .i64 g3]∧Sl W A zs∧La.U64 zs∧zs.length<=maxLen:=by
 obtain ⟨cs,rfl,hsz⟩:=okWide_struct Tryz.underlying24 hval
 obtain ⟨l⟩:=cs
 obtain ⟨c0,c1,c2,c3,rfl⟩:=four_of11 (show l.length=4 from hsz.trans cellsRoom)
 obtain ⟨fuel,hf⟩:=h
 have h:DataW.trod enc Tryz.prog W 0 (fun _=>true) true fuel 24 [c0,c1,c2,c3]=_:=hf
 obtain ⟨ys,n',_,hy,_,hyl,hf⟩:=DataW.trod_struct Tryz.underlying24 h
 obtain ⟨y0,y1,y2,y3,rfl⟩:=four_of11 (show ys.length=4 from hyl)
 have f0:DataW.trod enc Tryz.prog W 0 (fun _=>true) true n' 22 (([c0,c1,c2,c3].drop 0).take (Tryz.prog.cellsOf 22))=some y0:=hf 0 _ rfl
 have f1:DataW.trod enc Tryz.prog W 0 (fun _=>true) true n' 3 (([c0,c1,c2,c3].drop 1).take (Tryz.prog.cellsOf 3))=some y1:=hf 1 _ rfl
 have f2:DataW.trod enc Tryz.prog W 0 (fun _=>true) true n' 3 (([c0,c1,c2,c3].drop 2).take (Tryz.prog.cellsOf 3))=some y2:=hf 2 _ rfl
 have f3:DataW.trod enc Tryz.prog W 0 (fun _=>true) true n' 3 (([c0,c1,c2,c3].drop 3).take (Tryz.prog.cellsOf 3))=some y3:=hf 3 _ rfl
 rw [cellsU64s] at f0
 rw [cells9j] at f1 f2 f3
 obtain ⟨A,c,zs,e0,s0,u0,k0⟩:=read_u64s f0
 obtain ⟨g1,e1,_,_⟩:=DataW.trod_int Tryz.underlying3 f1
 obtain ⟨g2,e2,_,_⟩:=DataW.trod_int Tryz.underlying3 f2
 obtain ⟨g3,e3,_,_⟩:=DataW.trod_int Tryz.underlying3 f3
 simp at e0 e1 e2 e3
 exact ⟨A,c,zs,g1,g2,g3,by rw [e0,e1,e2,e3],s0,u0,k0⟩
end Go.Proofs.YtomjlopcifafpaaGreat
