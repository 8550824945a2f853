/- Proved parts: Vo. Conditions: each theorem's own. -/
import Derived.Test.YtoljhoabbaigdaaGreatM16
import Derived.Test.YtoljhoabbaigdaaGreatM5
import Derived.Lib.SmallJoins
import Derived.Test.YtoljhoabbaigdaaGreatQ0
set_option maxRecDepth 100000
set_option maxHeartbeats 8000000
namespace Go.Proofs.YtoljhoabbaigdaaGreat
open Go.Joins Go.ChangeShapes Go.WideShapes Go.ChangeAt Go.RowKit

theorem open_val {H:Type} {enc:TypeId × Value->H} {W:World} {base:Nat} {v:Value} {d:DataW H} {p:List MemPlace} (hval:Value.okWide Tryz.prog W .any base 59 v)
  (h:DataW.Trod enc Tryz.prog W 0 (fun _=>true) true 59 v d p):∃ x:Val,v=x.v∧x.Fits∧p=[]:=by
 obtain ⟨v0,v1,v2,y0,y1,y2,n,rfl,_,hp,h0,h1,h2⟩:=open_agg3 Tryz.underlying59 (by kernel_rfl) (by kernel_rfl) hval h
 obtain ⟨b,e0,q0⟩:=DataW.trod_bool Tryz.underlying4 h0
 obtain ⟨s,e1,q1,w1⟩:=DataW.trod_string Tryz.underlying9 h1
 obtain ⟨k,e2,q2,w2⟩:=DataW.trod_int Tryz.underlying57 h2
 simp at e0 e1 e2
 subst e0; subst e1; subst e2
 have hb:=bounds_u64 w2
 refine ⟨⟨b,s,k.toNat⟩,?_,⟨by show k.toNat<_; omega,w1⟩,?_⟩
 ·show _=Value.agg #[.bool b,.string s,.int .u64 ((k.toNat:Nat):Int)]
  rw [Int.toNat_of_nonneg hb.1]
 ·rw [hp,q0,q1,q2]; rfl

end Go.Proofs.YtoljhoabbaigdaaGreat
