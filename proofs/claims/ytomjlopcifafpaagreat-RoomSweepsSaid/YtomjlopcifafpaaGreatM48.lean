/- Proved parts: B5tg. Conditions: each theorem's own. -/
import Derived.Test.YtomjlopcifafpaaGreatM46
import Derived.Test.YtomjlopcifafpaaGreatM20
import Derived.Test.YtomjlopcifafpaaGreatM47
import Derived.Maps.OwnIn
import Derived.Test.YtomjlopcifafpaaGreatQ2
set_option maxRecDepth 100000
set_option maxHeartbeats 8000000
namespace Go.Proofs.YtomjlopcifafpaaGreat
open Go.RowKit Go.Shelf

theorem Ch.ents_snoc {L:Ch} {q:Int} {i:Nat} (hi:i<L.length):Ch.ents (L.take (i+1)) q=Ch.ents (L.take i) q++(if atOk (L.chn i) q then [⟨L.key i,(atL (L.chn i) q).seq,(atL (L.chn i) q).val⟩] else []):=by
  have e:L.take (i+1)=L.take i++[(L.key i,L.chn i)]:=by
    rw [List.take_succ_eq_append_getElem hi]
    unfold Ch.key Ch.chn
    rw [List.getD_eq_getElem?_getD,List.getElem?_eq_getElem hi]; rfl
  unfold Ch.ents
  rw [e,List.filterMap_append]
  congr 1
  cases z:atOk (L.chn i) q with
  | true=>simp [z]
  | false=>simp [z]
theorem Ch.ents_len (L:Ch) (q:Int):(L.ents q).length<=L.length:=by
  unfold Ch.ents
  exact List.length_filterMap_le _ _
theorem OwnEn.put {w:World} {B g:Nat} {v:Value} {l:List En} (h:OwnEn w B v l) (hg:g<B) (o:Obj):OwnEn (w.putObj g o) B v l:=by
  rcases h with ⟨h1,h2⟩
  refine ⟨h1,?_⟩
  rcases h2 with ⟨rfl,h0⟩ | ⟨k,cap,cur,rfl,hB,hk,r⟩
  · exact .inl ⟨rfl,h0⟩
  · exact .inr ⟨k,cap,cur,rfl,hB,(World.putObj_heap_other (by omega)).trans hk,r⟩
theorem OwnEn.other {w w':World} {B:Nat} {v:Value} {l:List En} (h:OwnEn w B v l) (hk:∀ k,B<=k->w'.heap[k]?=w.heap[k]?):OwnEn w' B v l:=by
  rcases h with ⟨h1,h2⟩
  refine ⟨h1,?_⟩
  rcases h2 with ⟨rfl,h0⟩ | ⟨k,cap,cur,rfl,hB,hg,r⟩
  · exact .inl ⟨rfl,h0⟩
  · exact .inr ⟨k,cap,cur,rfl,hB,(hk _ hB).trans hg,r⟩
theorem boxed_putOther {w:World} {a g:Nat} {t:TypeId} {v:Value} (h:Boxed w a t v) (hn:a≠g) (o:Obj):Boxed (w.putObj g o) a t v:=by
  unfold Boxed at h ⊢
  exact (World.putObj_heap_other hn).trans h
theorem below_putObj {w V:World} {B g:Nat} (h:Below B w V) (hg:B<=g) (o:Obj):Below B w (V.putObj g o) :=
  ⟨h.os,h.tape,h.output,Nat.le_trans h.size (by simp [World.putObj]),fun k hk=>(World.putObj_heap_other (by omega)).trans (h.block k hk)⟩

theorem SlV.put {X:World} {g:Nat} {A:Option Addr} {l:List Ver} (h:SlV X A l) (hp:∃ o',X.heap[g]?=some o'∧o'.isCells=false) (o:Obj):SlV (X.putObj g o) A l:=by
  obtain ⟨o',h1,h2⟩:=hp
  exact h.kept (grownBy_putObj' X g o) (fun r e=>by cases e; exact ⟨o',h1,h2⟩)
theorem OkW.put {L0:Ch} {j0 g:Nat} {pre:List WItm} {x:WItm} {X:World} (h:OkW L0 j0 pre x X) (hp:∃ o',X.heap[g]?=some o'∧o'.isCells=false) (o:Obj):OkW L0 j0 pre x (X.putObj g o):=by
  obtain ⟨h1,h2,A,c,h3,h4,h5⟩:=h
  exact ⟨h1,h2,A,c,h3,h4,h5.put hp o⟩
attribute [local go_sem] Oper.semAt_some
theorem xEntriesR {w0 w:World} {N:Nat->Prop} {b P:Nat} {s:Sh} {os2:List Ob} {L:Ch} (h:Side w0 N w (s.os b++os2)) (a:s.AtF L P) :
    Calls Tryz.prog 23 #[PtrM b] w fun e w'=>(∃ A c,e=.returned (.slice A (L.ents (s.r.seq:Nat)).length c)∧SlEn w' A (L.ents (s.r.seq:Nat))∧(0<(L.ents (s.r.seq:Nat)).length->∃ g o,A=some ⟨g,o,none⟩∧w.heap.size<=g))∧Below w.heap.size w w':=by
  obtain ⟨q,hq⟩:∃ q:Int,q=((s.r.seq:Nat):Int):=⟨_,rfl⟩
  rw [<-hq]
  have SQ:=qh (fun W (hb:Below w.heap.size w W)=>show Calls Tryz.prog 13 #[PtrM b] W fun e w'=>e=.returned (.int .i64 q)∧Below W.heap.size W w' from by rw [hq]; exact xSeqR (h.below hb))
  clear hq
  refine (callsIn_wide (n:=6)).1 ?_
  refine callsIn_of_wp_marks Tryz.func23 rfl trivial ?_ rfl
  simp only [Tryz.ntmps23,List.size_toArray,List.length_cons,List.length_nil,Nat.reduceAdd,Nat.reduceSub,Array.replicate_succ,Array.replicate_zero,List.push_toArray,List.append_toArray,List.nil_append,List.cons_append]
  obtain ⟨B,hB⟩:=nmq (w.heap.size)
  have b1:=((Boxed.new w 28 (PtrM b)).alloc (.cells #[.slice none 0 0] 52))
  have b2:=Boxed.new (w.alloc (.cells #[PtrM b] 28)) 52 (.slice none 0 0)
  have hb:Below w.heap.size w ((w.alloc (.cells #[PtrM b] 28)).alloc (.cells #[.slice none 0 0] 52)):=((Below.refl _ w).alloc (Nat.le_refl _) _).alloc (by simp) _
  have FR:=qh (fun W=>xFromR b ⟨#[]⟩ W)
  gi_wp2_with (refine ⟨trivial,?_⟩; gi_at_call 52; refine (callsIn_wide.2 (FR.out _)).mono ?_; rintro e w' ⟨rfl,rfl⟩)
  have hs1:((w.alloc (.cells #[PtrM b] 28)).alloc (.cells #[.slice none 0 0] 52)).heap.size=w.heap.size+1+1:=by simp
  simp only [World.size_alloc] at b2
  obtain ⟨W1,hW1⟩:∃ W1,(w.alloc (.cells #[PtrM b] 28)).alloc (.cells #[.slice none 0 0] 52)=W1:=⟨_,rfl⟩
  rw [hW1] at b1 b2 hb hs1 ⊢
  clear hW1
  have bt:Below W1.heap.size W1 (((W1.alloc (.cells #[PtrS b] 183)).alloc (.cells #[.func (.func 94) #[] #[]] 218)).alloc (.cells #[.string ⟨#[]⟩] 9)):=(((Below.refl _ W1).alloc (Nat.le_refl _) _).alloc (by simp) _).alloc (by simp; omega) _
  have r0:=((RowAt.new W1 [PtrS b] 183).alloc (.cells #[.func (.func 94) #[] #[]] 218)).alloc (.cells #[.string ⟨#[]⟩] 9)
  have hsz:(((W1.alloc (.cells #[PtrS b] 183)).alloc (.cells #[.func (.func 94) #[] #[]] 218)).alloc (.cells #[.string ⟨#[]⟩] 9)).heap.size=w.heap.size+5:=by simp [hs1]
  obtain ⟨I,eI⟩:∃ I:List WItm->World->Prop,I=fun pre V=>((∃ v,Boxed V (B+1) 52 v∧OwnEn V (B+7) v (Ch.ents (L.take pre.length) q))∧pre.length<=L.length∧Boxed V B 28 (PtrM b)∧V.cell? ⟨B+2,0,none⟩=some (PtrS b)∧B+5<=V.heap.size)∧Below B w V:=⟨_,rfl⟩
  have p0:0=L.pos ⟨#[]⟩:=by
    refine (Ch.pos_is (Nat.zero_le _) (fun j hj=>absurd hj (Nat.not_lt_zero j)) fun hm=>?_).symm
    have:∀ x:ByteArray,ltB x ⟨#[]⟩=false:=fun x=>by
      have e:(⟨#[]⟩:ByteArray).toList=[]:=by rw [Val.toL]
      unfold ltB
      rw [e]
      cases x.toList<;>rfl
    exact this _
  have hc:=givesB_from (n:=6-1) (w:=W1) (b:=b) (k:=⟨#[]⟩) (L0:=L) (j0:=0) I a.fine.rise p0 (fun pre V hI=>by
    rw [eI] at hI
    refine ⟨View.of h a _ (by have:=hI.2; rw [hB] at this; exact this),?_⟩
    have:=hI.1.2.2.2.1
    rw [hs1,<-hB]; exact this)
  obtain ⟨W0,hW0⟩:∃ W0,((W1.alloc (.cells #[PtrS b] 183)).alloc (.cells #[.func (.func 94) #[] #[]] 218)).alloc (.cells #[.string ⟨#[]⟩] 9)=W0:=⟨_,rfl⟩
  rw [hW0] at bt r0 hsz hc ⊢
  have c0:=r0.cell 0
  simp only [List.getElem?_cons_zero] at c0
  have b1:=boxed_below b1 bt
  have b2:=boxed_below b2 bt
  have hb:=below_then hb bt
  clear hW0 r0 bt
  clear p0
  rw [hs1] at hc c0
  rw [<-hB] at b1 b2 hb hsz hc c0 ⊢
  clear hs1
  have HBS:=qh hB
  have N0B:=qh (show B<=W0.heap.size by omega)
  have hI1:∀ s X Y,I s X->Below X.heap.size X Y->I s Y:=by
    rw [eI]
    rintro s X Y ⟨⟨⟨v,h1,h2⟩,h3,h4,h5,h6⟩,h7⟩ hb
    exact ⟨⟨⟨v,boxed_below h1 hb,h2.below hb⟩,h3,boxed_below h4 hb,(World.cell?_of_block (hb.block _ (by show B+2<_; omega))).trans h5,Nat.le_trans h6 hb.size⟩,h7.trans (hb.mono (by omega))⟩
  have hI2:∀ s X o,I s X->(∃ o',X.heap[W0.heap.size+1]?=some o'∧o'.isCells=false)->I s (X.putObj (W0.heap.size+1) o):=by
    rw [eI,hsz]
    rintro s X o ⟨⟨⟨v,h1,h2⟩,h3,h4,h5,h6⟩,h7⟩ _
    exact ⟨⟨⟨v,boxed_putOther h1 (by omega) o,h2.put (by omega) o⟩,h3,boxed_putOther h4 (by omega) o,(World.cell?_of_block (World.putObj_heap_other (by show B+2≠_; omega))).trans h5,by simp [World.putObj]; omega⟩,below_putObj h7 (by omega) o⟩
  refine wpIn_rangeFunc_toldB rfl (by decide) (gf:=136) (lb:=#[.pointer (some ⟨B+1+1,0,none⟩),.pointer (some ⟨B+1+1+1,0,none⟩),.pointer (some ⟨B+1+1+2,0,none⟩)]) rfl trivial (enters_of Tryz.func136 (by kernel_rfl) rfl) hc (Below.refl _ _) (fun _=>rfl) (Ix:=fun _ _=>False) hI1 hI2 (fun _ _ _ h=>h.elim) (fun _ _ _ h=>h.elim)
    (by rw [eI]; exact ⟨⟨⟨_,b2,World.ownsRow_nil _ _ _ _⟩,Nat.zero_le _,b1,c0,by omega⟩,hb⟩)
    (fun pre x a' V=>(OkW L 0 pre x V∧a'={ tmps:=#[PtrM b,.pointer (some ⟨B,0,none⟩),.slice none 0 0,.pointer (some ⟨B+1,0,none⟩),.string x.1,x.2,undef,undef,PtrM b,.bool false,PtrM b,.pointer (some ⟨b,0,none⟩),PtrS b,.func (.func 136) #[] #[.pointer (some ⟨B+1+1,0,none⟩),.pointer (some ⟨B+1+1+1,0,none⟩),.pointer (some ⟨B+1+1+2,0,none⟩)],.string x.1,x.2,undef,undef,undef,undef,undef,undef,undef,undef,undef,undef,undef,undef,undef,undef,undef,undef,undef,undef],defers:=[] })∧I pre V)
    (fun pre x a' X o hs hp=>⟨⟨hs.1.1.put hp o,hs.1.2⟩,hI2 _ _ _ hs.2 hp⟩)
    ?assign ?body ?done ?stop
  case assign =>
    rintro l pre x V K hV2 hi ok hK
    dsimp only [encW]
    clear b1 b2 hc hB hsz hb
    gi_wp2
    exact hK _ _ ⟨rfl,rfl⟩ ⟨⟨ok,rfl⟩,hi⟩
  case body =>
    rintro l pre ⟨k,sl⟩ a' V hV2 ⟨⟨⟨hlt,e1,A,c,e2,hc',hs⟩,rfl⟩,hi⟩
    simp only [Nat.zero_add] at e1 e2 hlt hc' hs
    subst e1 e2
    rw [eI] at hi
    obtain ⟨⟨⟨v,i1,i2⟩,i3,i4,i5,i6⟩,hV⟩:=hi
    have AT:=xAtR a (L.key pre.length) A c q
    rw [Ch.of_at a.fine.rise hlt] at AT
    have AT:=fun W (hb:Below V.heap.size V W)=>AT W hc' (hs.below hb)
    have EL:=Ch.ents_len (L.take pre.length) q
    have EN:=Ch.ents_snoc (q:=q) hlt
    have l3950:=a.n5
    rw [List.length_take] at EL
    obtain ⟨En0,hEn⟩:=nmq (Ch.ents (L.take pre.length) q)
    obtain ⟨y,hy⟩:=nmq (atL (L.chn pre.length) q)
    obtain ⟨D,hD2⟩:=nmq (atOk (L.chn pre.length) q)
    obtain ⟨z,hz⟩:=nmq ((L.chn pre.length).length)
    obtain ⟨K,hK⟩:=nmq (L.key pre.length)
    rw [<-hEn] at i2 EN EL
    rw [<-hy,<-hD2,<-hK] at EN
    rw [<-hy,<-hD2,<-hz] at AT
    rw [<-hK,<-hz]
    obtain ⟨sq,gn,u⟩:=y
    obtain ⟨nu,tx,bt⟩:=u
    have AT:Hid (∀ W,Below V.heap.size V W->Calls Tryz.prog 57 #[.slice A z c,.int .i64 q] W fun e w'=>e=.returned (.tuple #[.agg #[.int .i64 sq,.bool gn,.bool nu,.string tx,.int .u64 (bt:Int)],.bool D])∧Below W.heap.size W w'):=qh AT
    have SV:=qh (SQ.out V (by rw [<-HBS.out]; exact hV))
    have t1:=i1.cell
    have t4:=i4.cell
    have LE:=qh (show En0.length<=1000000 by omega)
    have LT:=qh (show pre.length+1<=L.length from hlt)
    have I1:=qh i1
    have I2:=qh i2
    have I4:=qh i4
    have I5:=qh i5
    have HV:=qh hV
    have EN:=qh EN
    have h1':1<=6-1-1:=by decide
    obtain ⟨N0,hN0⟩:=nmq (W0.heap.size)
    have hN5:N0=B+5:=by omega
    rw [<-hN0] at hV2 ⊢
    clear b1 b2 hc hB hsz hb hN0 hy hD2 hz hK hEn i1 i2 i4 i5 hV hs hc' EL hlt i3 c0
    cases D with
    | false =>
      gi_wp2_with (first
        | (refine ⟨trivial,?_⟩; gi_at_call 13; refine (CallsIn.inRound l (callsIn_wide.2 SV.out)).mono ?_; rintro e w1 ⟨rfl,hb1⟩; have HB1:=qh hb1; clear hb1)
        | (refine ⟨trivial,?_⟩; gi_at_call 57; refine (CallsIn.inRound l (callsIn_wide.2 (AT.out _ HB1.out))).mono ?_; rintro e w2 ⟨rfl,hb2⟩; have HB2:=qh hb2; clear hb2))
      have b2:Below V.heap.size V (w2.alloc (.cells #[.int .i64 sq,.bool gn,.bool nu,.string tx,.int .u64 (bt:Int)] 120)):=(below_then HB1.out HB2.out).alloc (below_then HB1.out HB2.out).size _
      refine ⟨⟨b2.block _ (by omega),b2.block _ (by omega)⟩,?_⟩
      rw [eI]
      refine ⟨⟨⟨v,boxed_below I1.out b2,?_⟩,?_,boxed_below I4.out b2,(World.cell?_of_block (b2.block _ (by show B+2<_; omega))).trans I5.out,Nat.le_trans i6 b2.size⟩,HV.out.trans (b2.mono (by omega))⟩
      · have e:Ch.ents (L.take (pre++[(K,Value.slice A z c)]).length) q=En0:=by
          rw [List.length_append,List.length_singleton,EN.out,if_neg (by decide),List.append_nil]
        rw [e]; exact I2.out.below b2
      · rw [List.length_append]; exact LT.out
    | true =>
      have mo:Tryz.prog.follows .mixedOrders=true:=by kernel_rfl
      obtain ⟨ie,hie,hz0,hz1,hz2⟩:=info_parts infoEn
      have HIE:=qh (And.intro hie (And.intro hz0 (And.intro hz1 hz2)))
      obtain ⟨o1,ho1⟩:=nmq (Obj.cells #[.int .i64 sq,.bool gn,.bool nu,.string tx,.int .u64 (bt:Int)] 120 (0,0))
      have HO1:=qh ho1
      have W3:=qh (fun w2 (hb:Below V.heap.size V w2)=>show
          (w2.alloc (.cells #[.int .i64 sq,.bool gn,.bool nu,.string tx,.int .u64 (bt:Int)] 120)).cell? ⟨B+1,0,none⟩=some v ∧
          Below V.heap.size V ((w2.alloc (.cells #[.int .i64 sq,.bool gn,.bool nu,.string tx,.int .u64 (bt:Int)] 120)).alloc (.cells #[.string K,.int .i64 sq,.bool nu,.string tx,.int .u64 (bt:Int)] 134)) from by
        have e1:Below V.heap.size V (w2.alloc (.cells #[.int .i64 sq,.bool gn,.bool nu,.string tx,.int .u64 (bt:Int)] 120)):=hb.alloc hb.size _
        exact ⟨(boxed_below I1.out e1).cell,e1.alloc e1.size _⟩)
      clear hie hz0 hz1 hz2 ho1
      gi_wp2_with (first
        | (refine ⟨trivial,?_⟩; gi_at_call 13; refine (CallsIn.inRound l (callsIn_wide.2 SV.out)).mono ?_; rintro e w1 ⟨rfl,hb1⟩; have HB1:=qh hb1; clear hb1)
        | (refine ⟨trivial,?_⟩; gi_at_call 57; refine (CallsIn.inRound l (callsIn_wide.2 (AT.out _ HB1.out))).mono ?_; rintro e w2 ⟨rfl,hb2⟩; obtain ⟨t1,b3⟩:=W3.out _ (below_then HB1.out hb2); have HB3:=qh b3; clear hb2 b3)
        | (gi_at_builtin; go_loud (refine wpListIn_append_own_at _ rfl (.tmp 24) (.tmp 31) 52 rfl (B+7) 134 ie _ 5 56 Tryz.underlying52 HIE.out.1 HIE.out.2.1 HIE.out.2.2.1 HIE.out.2.2.2 rfl (by decide) v En0.length (ecs En0) rfl (I2.out.below HB3.out) ⟨w2.heap.size+1,0,none⟩ 1 1 [.string K,.int .i64 sq,.bool nu,.string tx,.int .u64 (bt:Int)] rfl rfl ?cells ?one ?l1 ?l2 ?bs ?next)
           case one=>(intro u hu; simp at hu; rcases hu with rfl | rfl | rfl | rfl | rfl<;>rfl)
           case l1=>(have:=LE.out; unfold maxLen; omega)
           case l2=>(have:=LE.out; omega)
           case bs=>(have:=HB3.out.size; omega)
           case cells=>(
             intro j u hj
             have r:=RowAt.new (w2.alloc (.cells #[.int .i64 sq,.bool gn,.bool nu,.string tx,.int .u64 (bt:Int)] 120)) [.string K,.int .i64 sq,.bool nu,.string tx,.int .u64 (bt:Int)] 134
             rw [World.size_alloc] at r
             rw [show (⟨w2.heap.size+1,0,none⟩:Addr).add j=⟨w2.heap.size+1,j,none⟩ by simp [Addr.add]; omega]
             exact (r.cell j).trans hj)
           intro v2 w4 h1 h2 _ _
           obtain ⟨g2,c2,rfl⟩:=ownsRow_succ h1
           have g1:=(I2.out.below HB3.out).lt
           have g3:=HB3.out.size
           have b4:=(Below.refl (B+7) _).grown h2 (by omega) (fun k hk=>(g1 k hk).1)
           have x1:Boxed w4 (B+1) 52 v:=(b4.block _ (by omega)).trans (boxed_below I1.out HB3.out)
           have x1c:=x1.cell
           have x1f:=x1.frozen
           have X1:=qh x1
           have B4:=qh b4
           have O4:=qh h1
           clear h1 h2 g1 g3 b4 x1 t1))
      obtain ⟨v2,hv2⟩:=nmq (Value.slice (some ⟨g2,0,none⟩) (En0.length+1) c2)
      have O4:=qh (hv2 ▸ O4.out)
      simp only [<-hv2]
      have b4:=B4.out
      have b3:=HB3.out
      obtain ⟨V3,hV3⟩:=nmq (((w2.alloc (.cells #[.int .i64 sq,.bool gn,.bool nu,.string tx,.int .u64 (bt:Int)] 120)).alloc (.cells #[.string K,.int .i64 sq,.bool nu,.string tx,.int .u64 (bt:Int)] 134)))
      rw [<-hV3] at b4 b3
      have sz:=b3.size
      have c5:Chg (fun k=>k=B+1) w4 (w4.setCell ⟨B+1,0,none⟩ v2):=(Chg.refl (fun k=>k=B+1) w4).setCell (p:=⟨B+1,0,none⟩) (.inl rfl) _
      have z5:(w4.setCell ⟨B+1,0,none⟩ v2).heap.size=w4.heap.size:=World.size_setCell _ _ _
      have x5:=X1.out.set v2
      obtain ⟨W5,hW5⟩:=nmq (w4.setCell ⟨B+1,0,none⟩ v2)
      rw [<-hW5] at c5 z5 x5 ⊢
      have s4:=b4.size
      have at5:∀ k,k<B+7->k≠B+1->k<V.heap.size->W5.heap[k]?=V.heap[k]?:=fun k h1 h2 h3 =>
        (c5.block k (by omega) h2).trans ((b4.block k h1).trans (b3.block k h3))
      refine ⟨⟨at5 _ (by omega) (by omega) (by omega),at5 _ (by omega) (by omega) (by omega)⟩,?_⟩
      rw [eI]
      refine ⟨⟨⟨v2,x5,?_⟩,?_,(at5 _ (by omega) (by omega) (by omega)).trans I4.out,(World.cell?_of_block (at5 _ (by show B+2<_; omega) (by show B+2≠_; omega) (by show B+2<_; omega))).trans I5.out,by omega⟩,?_⟩
      · have e:Ch.ents (L.take (pre++[(K,Value.slice A z c)]).length) q=En0++[⟨K,sq,⟨nu,tx,bt⟩⟩]:=by
          rw [List.length_append,List.length_singleton,EN.out,if_pos trivial]
        rw [e]
        have o4:OwnEn w4 (B+7) v2 (En0++[⟨K,sq,⟨nu,tx,bt⟩⟩]):=by
          unfold OwnEn
          rw [List.length_append,List.length_singleton,show ecs (En0++[⟨K,sq,⟨nu,tx,bt⟩⟩])=ecs En0++[.string K,.int .i64 sq,.bool nu,.string tx,.int .u64 (bt:Int)] by unfold ecs; rw [List.flatMap_append]; rfl]
          exact O4.out
        exact o4.other fun k hk=>by
          by_cases y:k<w4.heap.size
          · exact c5.block k y (by omega)
          · rw [Array.getElem?_eq_none (by omega),Array.getElem?_eq_none (by omega)]
      · rw [List.length_append]; exact LT.out
      · exact (HV.out.trans (b3.mono (by omega))).trans ((b4.mono (by omega)).trans (c5.below (by rintro i rfl; omega) (by omega)))
  case done =>
    rintro D xs V hD hs hi hK
    rw [eI] at hi
    obtain ⟨⟨⟨v,i1,i2⟩,i3,i4,i5,i6⟩,hV⟩:=hi
    have t1:=i1.cell
    have xe:L.take xs.length=L:=by unfold EndW at hs; rw [Nat.zero_add] at hs; rw [hs,List.take_length]
    rw [xe] at i2
    have O2:=qh i2
    have HV:=qh hV
    clear b1 b2 hc hsz hb hB c0 i2 hV xe hs
    simp only [Exit.inBlock]
    gi_wp2
    refine ⟨by simp,.inl ⟨_,_,rfl,run_takeDeferred hK,?_⟩⟩
    have o3:OwnEn (V.putObj D (.deferred none)) (B+7) v (L.ents q):=ownsRow_putObj O2.out _ hK rfl
    obtain ⟨A,c,e,sl⟩:=o3.sl
    refine ⟨v,by simp [results,Tryz.f23,go_sem],⟨A,c,by rw [e],sl,fun hp=>?_⟩,by rw [<-HBS.out]; exact HV.out.trans (belowK_b (w:=W0) (n₀:=B) (by have:=N0B.out; omega) _ D _ _ (Nat.le_of_eq hD.symm) hK rfl rfl)⟩
    rcases o3.2 with ⟨_,h0⟩ | ⟨g,cap,cur,e2,hg,_⟩
    · omega
    · rw [e2] at e
      injection e with e _ _
      exact ⟨g,0,e.symm,by rw [<-HBS.out]; omega⟩
  case stop =>
    rintro D pre V hD hi
    exact hi.elim

theorem R11.entries (b:Nat) (F:Nat->Prop) (m:Rm) (w:World) (h:theR11 w b F m) (_:m.Few) :
    Calls Tryz.prog 23 #[PtrM b] w fun e w'=>(∃ A c,e=.returned (.slice A m.ents.length c)∧SlEn w' A m.ents∧(0<m.ents.length->∃ g o,A=some ⟨g,o,none⟩∧w.heap.size<=g))∧Below w.heap.size w w':=by
  obtain ⟨s,P,h,i⟩:=h
  have c:=xEntriesR (R11.side h) i.at_.f
  have e:m.L.ents ((s.r.seq:Nat):Int)=m.ents:=by rw [i.r]; rfl
  rw [e] at c
  exact c

end Go.Proofs.YtomjlopcifafpaaGreat
