/- Pc31 -/
import Derived.Test.YtfhbdlegkdbmfaaGreatPc12
import Derived.Test.YtfhbdlegkdbmfaaGreatPc14
set_option linter.unusedVariables false
set_option linter.unusedSimpArgs false
set_option linter.unusedSectionVars false
set_option maxRecDepth 100000
set_option maxHeartbeats 8000000
namespace Go.Proofs.YtfhbdlegkdbmfaaGreat
section
open Go.RowKit
structure OwnW (w0 w:World) (k:Nat) (v:Value) (zs:List Int):Prop where
 row:∃vs:List Value,OwnN w w0.heap.size 31 v zs.length vs/\∀j,j<zs.length->∃s A n c,vs[j*2]? =some (.bool s)/\vs[j*2+1]? =some (.slice A n c)/\Zv w s A n c (ith zs j)/\n<=k
 old:Below w0.heap.size w0 w
theorem OwnW.nil (w:World)(k:Nat):OwnW w w k (.slice none 0 0) []:=⟨⟨[],⟨World.ownsRow_nil w _ _ _,fun g cs h=>nomatch h⟩,fun j hj=>by simp at hj⟩,Below.refl _ _⟩
theorem OwnW.below {w0 w w':World}{k:Nat}{v:Value}{zs:List Int}(h:OwnW w0 w k v zs)(hb:Below w.heap.size w w'):OwnW w0 w' k v zs:=by
 obtain⟨⟨vs,⟨h1,h2⟩,h3⟩,h4⟩:=h;refine⟨⟨vs,⟨h1.kept (row:=none) ⟨hb.os,hb.tape,hb.output,hb.size,fun k hk _=>hb.block k hk⟩ (by cases hv:v.ownBlock<;>simp),fun g cs hg hc=>h2 g cs hg ?_⟩,fun j hj=>?_⟩,h4.trans (hb.mono h4.size)⟩
 ·rw[<-hb.block g (h1.lt g hg).2];exact hc
 ·obtain⟨s,A,n,c,c1,c2,c3,c4⟩:=h3 j hj;exact⟨s,A,n,c,c1,c2,c3.below hb,c4⟩
theorem OwnW.form {w0 w:World}{k:Nat}{v:Value}{zs:List Int}(h:OwnW w0 w k v zs):∃A c,v= .slice A zs.length c/\ZL false w A zs.length c k zs:=by
 obtain⟨⟨vs,⟨h1,h2⟩,h3⟩,h4⟩:=h;rcases h1.2 with⟨rfl,e⟩|⟨g,cap,cur,rfl,hb,hh,hn,hm,hcs,ht⟩
 ·rw[List.length_eq_zero_iff.1 e];exact⟨none,0,rfl,ZL.nil _ _ _⟩
 ·refine⟨_,cap,rfl,⟨rfl,hn,by unfold maxLen at hm;omega,fun h0=>⟨_,rfl,(Array.getElem?_eq_some_iff.1 hh).1,fun j hj=>?_⟩⟩⟩;obtain⟨s,A,n,c,c1,c2,c3,c4⟩:=h3 j hj;have hc:=h1.cells (g:=g) rfl;refine⟨s,A,n,c,hc _ _ c1, ?_,⟨c3,fun e=>nomatch e⟩,c4⟩
  have:=hc _ _ c2;rw[b_i]at this;rw[b_i];exact this
theorem c_d {P:Program}(w0 w1:World){ops:Array Oper}{rest:List Oper}{o:Oper}{a:Act}{Q:Exit->Act->World->Prop}(hgd:o.guard=none)(s x:Operand)(t:TypeId)
  (ho:o.op= .call { callee:=.builtin .append,args:=#[s,x],argTypes:=#[t,t] })
  (ht:P.underlying t=some (.slice 31)) (hinfo:(P.info? 31).map (fun i=>(i.zero,i.size,i.bytes))=some (some (.agg #[.bool false,.slice none 0 0]),2,32))
  (k:Nat) (v:Value) (zs:List Int) (hs:a.eval s=v) (hown:OwnW w0 w1 k v zs) {sb:Bool} {A:Option Addr} {n c g:Nat} {z:Int} (hc0:w1.cell? ⟨g,0,none⟩=some (.bool sb)) (hc1:w1.cell? ⟨g,1,none⟩=some (.slice A n c)) (hz:Zv w1 sb A n c z) (hn:n<=k)
  (hx:a.eval x= .slice (some ⟨g,0,none⟩) 1 1) (hlen:zs.length<=1099511627776)
  (h:∀v' w',OwnW w0 w' k v' (zs++[z])->Grew w1 w' v v'->wpList P ops Q rest (a.put o.dst v') w'):
  wpList P ops Q (o::rest) a w1:=by
 obtain⟨i,hi,hz0,hz1,hz2⟩:=info_parts hinfo;have hsz:=hown.old.size;have hzz:=hz;obtain⟨⟨vs,h1,h3⟩,h4⟩:=hown;obtain⟨v',w',hr,h5,h6,h8⟩:=d_u (P:=P) w1 w0.heap.size t o.type 31 i (.agg #[.bool false,.slice none 0 0]) 32 ht hi hz0 hz1 hz2 rfl (fun u hu=>by
   simp[Value.cells]at hu;rcases hu with rfl|rfl<;>exact fun m e=>nomatch e) v zs.length vs h1 ⟨g,0,none⟩ 1 [.bool sb,.slice A n c] rfl (fun j u hu=>by
   rw[b_i];match j,hu with
   |0,hu=>simp at hu;subst hu;exact hc0
   |1,hu=>simp at hu;subst hu;exact hc1) (fun u hu=>by
   simp at hu;rcases hu with rfl|rfl<;>rfl) (fun u hu=>by
   simp at hu;rcases hu with rfl|rfl<;>exact fun m e=>nomatch e) (by unfold maxLen;omega) (by omega) (by omega)
 refine wpList_plain hgd fun K hK'=>?_;unfold Oper.wp execOp;simp only[ho,resolve,invoke,builtin,Sem.run_bind,Sem.run_pure,Result.andThen_ok,List.map_toArray,List.map_cons,List.map_nil,hs,hx,hr];have keep:∀ {s':Bool} {A':Option Addr} {n' c':Nat} {y:Int},Zv w1 s' A' n' c' y->Zv w' s' A' n' c' y:=fun {s' A' n' c' y} hy=>by
  cases hvb:v.ownBlock with
  |none=>rw[hvb]at h6;exact hy.below ⟨h6.os,h6.tape,h6.output,h6.size,fun k hk=>h6.block k hk (by simp)⟩
  |some g=>rw[hvb]at h6;exact hy.gro (h1.wless hvb) h6
 have hvl:vs.length=zs.length*2:=h1.1.1;have hG:Grew w1 w' v v':=⟨h6,fun g hg=>h1.wless hg,h8⟩;refine hK' _ _ (h v' w' ⟨⟨_,by rw[List.length_append];exact h5,fun j hj=>?_⟩, ?_⟩ hG)
 ·rw[List.length_append,List.length_singleton]at hj;rcases Nat.lt_or_ge j zs.length with hlt|hge
  ·obtain⟨s',A',n',c',c1,c2,c3,c4⟩:=h3 j hlt;refine⟨s',A',n',c',by rw[List.getElem?_append_left (by omega)];exact c1,by rw[List.getElem?_append_left (by omega)];exact c2, ?_,c4⟩;rw[show ith (zs++[z]) j=ith zs j by simp[ith,List.getD,List.getElem?_append_left hlt]];exact keep c3
  ·obtain rfl:j=zs.length:=by omega
   refine⟨sb,A,n,c,by rw[List.getElem?_append_right (by omega),hvl,Nat.sub_self];rfl,by rw[List.getElem?_append_right (by omega),hvl,show zs.length*2+1 - zs.length*2=1 by omega];rfl, ?_,hn⟩;rw[show ith (zs++[z]) zs.length=z by simp[ith,List.getD]];exact keep hzz
 ·exact h4.grown h6 h4.size (fun k hk=>(h1.1.lt k hk).1)
theorem OwnW.fresh {w0 w:World}{k g:Nat}{v:Value}{zs:List Int}(h:OwnW w0 w k v zs)(hg:w.heap.size<=g):v.ownBlock≠some g:=fun e=>by
 obtain⟨⟨vs,⟨h1,_⟩,_⟩,_⟩:=h
 have:=(h1.lt g e).2;omega
theorem OwnW.zp {w0 w:World}{k g m d n c:Nat}{v:Value}{zs:List Int}{s t:Bool}{A B:Option Addr}(h:OwnW w0 w k v zs)(b:Bx w g 31 [.bool t,.slice B m d])(hg:w0.heap.size<=g)(hne:v.ownBlock≠some g):OwnW w0 (Go.Proofs.YtfhbdlegkdbmfaaGreat.zput w g s A n c) k v zs:=by
 obtain⟨⟨vs,⟨h1,h2⟩,h3⟩,h4⟩:=h;have hgr:w.grownBy (Go.Proofs.YtfhbdlegkdbmfaaGreat.zput w g s A n c) (some g):=a_8 (q:=⟨g,1,none⟩) (a_8 (q:=⟨g,0,none⟩) (a_6 w (some g)) rfl _) rfl _;refine⟨⟨vs,⟨h1.kept hgr (.inr hne),fun g' cs hg' hc=>h2 g' cs hg' ?_⟩,fun j hj=>?_⟩,a_l h4 hg⟩
 ·rw[<-hgr.block g' (h1.lt g' hg').2 (by rw[<-hg'];exact hne)];exact hc
 ·obtain⟨s',A',n',c',c1,c2,c3,c4⟩:=h3 j hj;exact⟨s',A',n',c',c1,c2,Zv.zp c3 b,c4⟩
end
section
open Go.RowKit
structure PM where
 r:Nat
 c:Nat
 F:Nat->Nat->Int
def pz:PM:=⟨0,0,fun _ _=>0⟩
section
variable {w w':World}{r c r' c':Int}{A A':Option Addr}{n d k n' d' k':Nat}{x y:Option PM}
end
end
section
open Go.RowKit
section
variable {ops:Array Oper}{Q:Exit->Act->World->Prop}{m i:Nat}{a0:Act}{w0:World}{l:List FK}{b:Bool}{id:Nat}
end
section
variable {T:TypeId}{X Y:Operand}{U:TypeId}
theorem opEqB {x y:Bool}{b:Bool}(h:(x==y)=b)(w:World):RunTwo Tryz.prog (.binOp .eql 4 X Y U) w (.bool x) (.bool y) (.bool b):=by unfold RunTwo;subst h;cases x<;>cases y<;>simp only[]<;>kernel_rfl
end
end
end Go.Proofs.YtfhbdlegkdbmfaaGreat
