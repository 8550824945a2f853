/- Proved parts: B1t. Conditions: each theorem's own. -/
import Derived.Test.YtoljhoabbaigdaaGreatM13
import Derived.BigQuiet
import Derived.StillTailTactics
import Derived.Test.YtoljhoabbaigdaaGreatQ0
set_option maxRecDepth 100000
set_option maxHeartbeats 8000000
namespace Go.Proofs.YtoljhoabbaigdaaGreat
open Go.RowKit

def SlWr (w:World) (A:Option Addr) (l:List Wr):Prop :=
 0<l.length->∃ b o,A=some ⟨b,o,none⟩∧b<w.heap.size∧∀ j,j<l.length →
  w.cell? ⟨b,o+j * 5,none⟩=some (.string (l.getD j Wr.Z).key)∧w.cell? ⟨b,o+j * 5+1,none⟩=some (.bool (l.getD j Wr.Z).gone)∧w.cell? ⟨b,o+j * 5+2,none⟩=some (.bool (l.getD j Wr.Z).val.num) ∧
  w.cell? ⟨b,o+j * 5+3,none⟩=some (.string (l.getD j Wr.Z).val.txt)∧w.cell? ⟨b,o+j * 5+4,none⟩=some (.int .u64 ((l.getD j Wr.Z).val.bits:Int))
theorem SlWr.below {w w':World} {A:Option Addr} {l:List Wr} (h:SlWr w A l) (hb:Below w.heap.size w w'):SlWr w' A l:=fun hp=>by
 obtain ⟨b,o,e,hl,hc⟩:=h hp
 refine ⟨b,o,e,Nat.lt_of_lt_of_le hl hb.size,fun j hj=>?_⟩
 obtain ⟨c0,c1,c2,c3,c4⟩:=hc j hj
 exact ⟨(hb.cell (p:=⟨b,o+j * 5,none⟩) hl).trans c0,(hb.cell (p:=⟨b,o+j * 5+1,none⟩) hl).trans c1,(hb.cell (p:=⟨b,o+j * 5+2,none⟩) hl).trans c2,(hb.cell (p:=⟨b,o+j * 5+3,none⟩) hl).trans c3,(hb.cell (p:=⟨b,o+j * 5+4,none⟩) hl).trans c4⟩
theorem SlWr.at {w:World} {A:Option Addr} {l:List Wr} (h:SlWr w A l) {j:Nat} (hj:j<l.length):∃ b o,A=some ⟨b,o,none⟩∧b<w.heap.size ∧
  w.cell? ⟨b,o+j * 5,none⟩=some (.string (l.getD j Wr.Z).key)∧w.cell? ⟨b,o+j * 5+1,none⟩=some (.bool (l.getD j Wr.Z).gone)∧w.cell? ⟨b,o+j * 5+2,none⟩=some (.bool (l.getD j Wr.Z).val.num) ∧
  w.cell? ⟨b,o+j * 5+3,none⟩=some (.string (l.getD j Wr.Z).val.txt)∧w.cell? ⟨b,o+j * 5+4,none⟩=some (.int .u64 ((l.getD j Wr.Z).val.bits:Int)):=by
 obtain ⟨b,o,e,hl,hc⟩:=h (by omega)
 exact ⟨b,o,e,hl,hc j hj⟩
theorem SlO.bound {w:World} {G:Nat->Prop} {A:Option Addr} {L:Ch} (h:SlO w G A L):SlO w (fun x=>G x∧x<w.heap.size) A L:=fun hp=>by
 obtain ⟨b,o,e,hg,hl,hc⟩:=h hp
 refine ⟨b,o,e,⟨hg,hl⟩,hl,fun j hj=>?_⟩
 obtain ⟨c0,A',c,c1,s⟩:=hc j hj
 refine ⟨c0,A',c,c1,s.1,fun hp=>?_⟩
 obtain ⟨g,o',e',q⟩:=s.2 hp
 obtain ⟨b',_,e2,hl2,_⟩:=s.1 hp
 rw [e'] at e2
 injection e2 with e2
 injection e2 with e2 _ _
 exact ⟨g,o',e',q,by omega⟩
theorem withW_succ (L:Ch) (l:List Wr) (q:Int) {i:Nat} (hi:i<l.length):L.withW (l.take (i+1)) q=(L.withW (l.take i) q).put (l.getD i Wr.Z).key ((l.getD i Wr.Z).ver q):=by
 unfold Ch.withW
 rw [List.take_succ_eq_append_getElem hi,List.foldl_append,List.getD_eq_getElem?_getD,List.getElem?_eq_getElem hi]
 rfl

end Go.Proofs.YtoljhoabbaigdaaGreat
