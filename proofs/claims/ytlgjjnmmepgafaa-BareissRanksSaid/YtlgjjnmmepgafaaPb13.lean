/- Pb13 -/
import Derived.Test.YtlgjjnmmepgafaaPb12
import Derived.Laws.AppendOwn
set_option linter.unusedVariables false
set_option linter.unusedSimpArgs false
set_option linter.unusedSectionVars false
set_option maxRecDepth 100000
set_option maxHeartbeats 8000000
namespace Go.Proofs.Ytlgjjnmmepgafaa
section
open Go.RowKit
def mk (r c:Nat)(F:Nat->Nat->Int):List Int:=(List.range (r*c)).map fun m=>F (m / c) (m%c)
theorem a_y (r c:Nat)(F:Nat->Nat->Int):(mk r c F).length=r*c:=by simp[mk]
theorem f_y {r c i j:Nat}(hi:i<r)(hj:j<c):i*c+j<r*c:=by
 have:i*c+c<=r*c:=by rw[<-Nat.succ_mul];exact Nat.mul_le_mul_right c hi
 omega
theorem h_f {r c i j:Nat}{F:Nat->Nat->Int}(hi:i<r)(hj:j<c):ith (mk r c F) (i*c+j)=F i j:=by
 have h:=f_y hi hj;have h1:(i*c+j) / c=i:=by rw[Nat.mul_comm,Nat.mul_add_div (by omega),Nat.div_eq_of_lt hj];omega
 have h2:(i*c+j)%c=j:=by rw[Nat.mul_comm,Nat.mul_add_mod,Nat.mod_eq_of_lt hj]
 simp[ith,mk,List.getD,h,h1,h2]
theorem s_j {r c m:Nat}(h:m<r*c):m / c<r/\m%c<c/\m / c*c+m%c=m:=by
 have hc:0<c:=Nat.pos_of_ne_zero fun e=>by subst e;simp at h
 exact⟨Nat.div_lt_of_lt_mul (by rw[Nat.mul_comm];exact h),Nat.mod_lt _ hc,by rw[Nat.mul_comm];exact Nat.div_add_mod m c⟩
theorem r_9 {r c:Nat}{zs:List Int}(h:zs.length=r*c):mk r c (fun i j=>ith zs (i*c+j))=zs:=by
 apply List.ext_getElem
 ·rw[a_y,h]
 ·intro m h1 h2;obtain⟨e1,e2,e3⟩:=s_j (r:=r) (c:=c) (m:=m) (by rw[<-h];exact h2);simp[mk,e3,ith,List.getD,h2]
def fil (l:List Int)(m:Nat):List Int:=l.take m++List.replicate (l.length - m) 0
theorem i_g (l:List Int):fil l 0=List.replicate l.length 0:=by simp[fil]
theorem h_n (l:List Int):fil l l.length=l:=by simp[fil]
theorem b_x {l:List Int}{m:Nat}(h:m<=l.length):(fil l m).length=l.length:=by simp[fil];omega
theorem k_z {l:List Int}{m:Nat}(h:m<l.length):(fil l m).set m (ith l m)=fil l (m+1):=by
 apply List.ext_getElem
 ·rw[List.length_set,b_x (by omega),b_x (by omega)]
 ·intro j h1 h2;rw[b_x (by omega)]at h2;rw[List.getElem_set];by_cases e:m=j
  ·subst e;rw[if_pos rfl];simp only[fil];rw[List.getElem_append_left (by simp;omega)];simp[ith,List.getD,h2]
  ·rw[if_neg e];simp only[fil];rcases Nat.lt_or_ge j m with h3|h3
   ·rw[List.getElem_append_left (by simp;omega),List.getElem_append_left (by simp;omega)];simp
   ·rw[List.getElem_append_right (by simp;omega),List.getElem_append_right (by simp;omega)];simp
def kC (z:Int)(k:Nat):FK:=.f (IsC z k) (q_x z k)
def kV (z:Int)(k:Nat):FK:=.f (IsV z k) (q_v z k)
theorem IsC.v {z:Int}{k:Nat}{v:Value}{w:World}(h:IsC z k v w):IsV z k v w:=by
 obtain⟨s,A,n,c,e,h1,h2⟩:=h;exact⟨s,A,n,c,e,h1.zv,h2⟩
structure Mt (q:Bool) (w:World) (r c:Nat) (A:Option Addr) (n d k:Nat) (F:Nat->Nat->Int):Prop where
 zl:ZL q w A n d k (mk r c F)
 hr:r<=64
 hc:c<=64
section
variable {q:Bool}{w w':World}{r c n d k k':Nat}{A:Option Addr}{F G:Nat->Nat->Int}
theorem Mt.below (h:Mt q w r c A n d k F)(hb:Below w.heap.size w w'):Mt q w' r c A n d k F:=⟨h.zl.below hb,h.hr,h.hc⟩
theorem Mt.len (h:Mt q w r c A n d k F):n=r*c:=by have:=h.zl.len;rw[a_y]at this;exact this.symm
theorem Mt.fmd (h:Mt q w r c A n d k F):fmd (r:Int) (c:Int) n=true:=by
 have h1:=h.hr;have h2:=h.hc;have h3:=h.len;unfold Proofs.Ytlgjjnmmepgafaa.fmd sd;simp only[Bool.and_eq_true,decide_eq_true_eq];refine⟨⟨⟨by omega,by omega⟩,by omega,by omega⟩,by rw[h3];simp⟩
theorem Mt.elem (h:Mt q w r c A n d k F){i j:Nat}(hi:i<r)(hj:j<c):∃ad,A=some ad/\ad.block<w.heap.size/\i*c+j<n/\ZAt q w (ad.add ((i*c+j)*2)) k (F i j):=by
 have hl:i*c+j<n:=by rw[h.len];exact f_y hi hj
 obtain⟨ad,e,h1,h2⟩:=h.zl.at hl;rw[h_f hi hj]at h2;exact⟨ad,e,h1,hl,h2⟩
end
def IsM (q:Bool)(r c k:Nat)(F:Nat->Nat->Int):FVal:=fun v w=>∃A n d,v= .agg #[.int .i64 (r:Int),.int .i64 (c:Int),.slice A n d]/\Mt q w r c A n d k F
def kM (q:Bool)(r c k:Nat)(F:Nat->Nat->Int):FK:=.f (IsM q r c k F) (fun v w w' ⟨A,n,d,e,h⟩ hb=>⟨A,n,d,e,h.below hb⟩)
theorem RetK.mono {x y:FK}{w w':World}{e:Ending}(h:RetK x w e w')(hxy:∀v w,x.F v w->y.F v w):RetK y w e w':=by
 obtain⟨u,e,h1,h2⟩:=h;exact⟨u,e,hxy _ _ h1,h2⟩
theorem ZPost.q {z:Int}{k k':Nat}{w w':World}{e:Ending}(h:ZPost z k w e w')(hk:k<=k'):RetK (kC z k') w e w':=by
 obtain⟨s,A,n,c,e,h1,h2,h3⟩:=h;exact⟨_,e,⟨s,A,n,c,rfl,h1,by omega⟩,h3⟩
section
variable {u v:Value}{x y:Int}{n m k:Nat}{w:World}
theorem j_k (hx:IsV x n u w)(hy:IsV y m v w)(hn:n<=1099511627776)(hm:m<=1099511627776)(hk:max n m+1<=k):Calls Try.prog 37 #[u,v] w (RetK (kC (x+y) k) w):=by
 obtain⟨s,A,a,c,rfl,h1,h2⟩:=hx;obtain⟨s',A',a',c',rfl,h1',h2'⟩:=hy;exact(n_f h1 h1' (by omega) (by omega)).mono fun e w' h=>h.q (by omega)
theorem q_l (hx:IsV x n u w)(hy:IsV y m v w)(hn:n<=1099511627776)(hm:m<=1099511627776)(hk:max n m+1<=k):Calls Try.prog 98 #[u,v] w (RetK (kC (x - y) k) w):=by
 obtain⟨s,A,a,c,rfl,h1,h2⟩:=hx;obtain⟨s',A',a',c',rfl,h1',h2'⟩:=hy;exact(q_k h1 h1' (by omega) (by omega)).mono fun e w' h=>h.q (by omega)
theorem f_0 (hx:IsV x n u w)(hy:IsV y m v w)(hn:n<=1099511627776)(hm:m<=1099511627776)(hk:n+m<=k):Calls Try.prog 22 #[u,v] w (RetK (kC (x*y) k) w):=by
 obtain⟨s,A,a,c,rfl,h1,h2⟩:=hx;obtain⟨s',A',a',c',rfl,h1',h2'⟩:=hy;exact(q_o h1 h1' (by omega) (by omega)).mono fun e w' h=>h.q (by omega)
theorem i_v (h1:-9223372036854775808<=x)(h2:x<=9223372036854775807)(w:World):Calls Try.prog 26 #[.int .i64 x] w (RetK (kC x 1) w):=(r_3 x h1 h2 w).mono fun e w' h=>h.q (Nat.le_refl _)
theorem IPost.q {r:Int}{w w':World}{e:Ending}(h:IPost r w e w'):RetK (.k (.int .i64 r)) w e w':=⟨_,h.1,rfl,h.2⟩
theorem b_n {r:Int}(hx:IsV x n u w)(hn:n<=1099511627776)(hr:x.sign=r):Calls Try.prog 11 #[u] w (RetK (.k (.int .i64 r)) w):=by
 obtain⟨s,A,a,c,rfl,h1,h2⟩:=hx;exact(g_y h1 (by omega) hr).mono fun e w' h=>h.q
theorem d_h {b:Bool}(hx:IsV x n u w)(hy:IsV y m v w)(hn:n<=1099511627776)(hm:m<=1099511627776)(hb:decide (x=y)=b):Calls Try.prog 12 #[u,v] w (RetK (.k (.bool b)) w):=by
 obtain⟨s,A,a,c,rfl,h1,h2⟩:=hx;obtain⟨s',A',a',c',rfl,h1',h2'⟩:=hy;exact(n_3 h1 h1' (by omega) (by omega) hb).mono fun e w' h=>⟨_,h.1,rfl,h.2⟩
end
theorem j_h {s:Bool}{A:Option Addr}{n c k:Nat}{z:Int}{w:World}(h:Zv w s A n c z)(hn:n<=k)(hk:k<=1099511627776):Calls Try.prog 49 #[.slice A n c,.bool s] w (RetK (kC z k) w):=by
 obtain⟨v,h1,h2⟩:=h;rw[h2.out];exact(f_b h1 (by omega)).mono fun e w' h=>h.q (by omega)
theorem zp_cells:Try.prog.cellsOf 30=2:=by kernel_rfl
theorem o_r {w:World}{ad:Addr}{n c k:Nat}(h:k<n):(Instr.indexAt 22 (.slice (some ad) n c) (.int .i64 (k:Int))).run Try.prog w= .ok (.pointer (some (ad.add (k*2)))) w:=by
 simp[go_sem,Try.underlying22,zp_cells];omega
theorem opIx {ad:Addr}{n c k:Nat}{X Y:Operand}(h:k<n)(w:World):RunTwo Try.prog (.indexAddr 22 X Y) w (.slice (some ad) n c) (.int .i64 (k:Int)) (.pointer (some (ad.add (k*2)))):=o_r h
theorem ldE {w:World}{p:Addr}{s:Bool}{A:Option Addr}{n c:Nat}(hp:p.block<w.heap.size)(h0:w.cell? p=some (.bool s))(h1:w.cell? ⟨p.block,p.off+1,none⟩=some (.slice A n c)):∀w',Below w.heap.size w w'->(Instr.loadAt 30 (.pointer (some p))).run Try.prog w'= .ok (.agg #[.bool s,.slice A n c]) w':=fun w' hb=>
 l_y ((hb.cell hp).trans h0) ((hb.cell (p:=⟨p.block,p.off+1,none⟩) hp).trans h1)
theorem retC {w w2:World}{A B:Option Addr}{n c g k m d:Nat}{s t:Bool}{z:Int}(h:Zc w2 s A n c z)(hi:Ib w2 g t B m d)(hk:n<=k)(hg:w.heap.size<=g)(hB:Below w.heap.size w w2):
  RetK (kC z k) w (.returned (.agg #[.bool s,.slice A n c])) ((w2.setCell ⟨g,0,none⟩ (.bool s)).setCell ⟨g,1,none⟩ (.slice A n c)):=(zfin h hi hk hg hB).q (Nat.le_refl _)
theorem retV {w w2:World}{A B:Option Addr}{n c g k m d:Nat}{s t:Bool}{z:Int}(h:Zv w2 s A n c z)(hi:Ib w2 g t B m d)(hk:n<=k)(hg:w.heap.size<=g)(hB:Below w.heap.size w w2):
  RetK (kV z k) w (.returned (.agg #[.bool s,.slice A n c])) ((w2.setCell ⟨g,0,none⟩ (.bool s)).setCell ⟨g,1,none⟩ (.slice A n c)):=
 ⟨_,rfl,⟨s,A,n,c,rfl,h.put hi,hk⟩,a_e hB hg⟩
theorem e_u {P:Program}{w:World}{ops:Array Oper}{rest:List Oper}{o:Oper}{a:Act}{Q:Exit->Act->World->Prop}(hgd:o.guard=none)(s x:Operand)(t:TypeId)
  (ho:o.op= .call { callee:=.builtin .append,args:=#[s,x],argTypes:=#[t,t] })
  (ht:P.underlying t=some (.slice 30)) (hinfo:(P.info? 30).map (fun i=>(i.zero,i.size,i.bytes))=some (some (.agg #[.bool false,.slice none 0 0]),2,32))
  {g k m cap h n c:Nat} {sb:Bool} {A:Option Addr} {z:Int} {zs:List Int} (hs:a.eval s= .slice (some ⟨g,0,none⟩) m cap) (hx:a.eval x= .slice (some ⟨h,0,none⟩) 1 1)
  (hone:Bx w h 30 [.bool sb,.slice A n c]) (hz:Zc w sb A n c z) (hn:n<=k) (hb:ZB w g k zs) (hm:m<zs.length) (hcap:cap=zs.length)
  (K:∀w',ZB w' g k (zs.set m z)->w.grownBy w' (some g)->wpList P ops Q rest (a.put o.dst (.slice (some ⟨g,0,none⟩) (m+1) cap)) w'):
  wpList P ops Q (o::rest) a w:=by
 obtain⟨i,hi,hz0,hz1,hz2⟩:=info_parts hinfo;have hno:=hb.now;have hput:=hb.put (j:=m) hm hz hn;obtain⟨cs,h1,h2,h3⟩:=hb;have c0:=hone.cell 0;have c1:=hone.cell 1;simp at c0 c1;have hrun:=run_append_room (P:=P) w t o.type 30 i ht hi g m cap cs h1 ⟨h,0,none⟩ 1 1 [.bool sb,.slice A n c] (by rw[hz1];rfl) (fun j u hu=>by
   rw[b_d];match j,hu with
   |0,hu=>simp at hu;subst hu;exact c0
   |1,hu=>simp at hu;subst hu;exact c1) (fun u hu=>by
   simp at hu;rcases hu with rfl|rfl<;>rfl) (by omega) (by rw[hz1,h2];simp;omega)
 rw[hz1]at hrun;have eC:(cs.toList.take (m*2)++[Value.bool sb,.slice A n c]++cs.toList.drop (m*2+2)).toArray=(cs.setIfInBounds (m*2) (.bool sb)).setIfInBounds (m*2+1) (.slice A n c):=by
  apply Array.ext';simp only[Array.toList_setIfInBounds];apply List.ext_getElem?;intro j;have hl:m*2+1<cs.toList.length:=by rw[Array.length_toList,h2];omega
  rw[List.getElem?_set,List.getElem?_set];rcases Nat.lt_trichotomy j (m*2)with e|e|e
  ·rw[if_neg (by omega),if_neg (by omega),List.append_assoc,List.getElem?_append_left (by simp;omega),List.getElem?_take_of_lt e]
  ·subst e;rw[if_neg (by omega),if_pos rfl,if_pos (by omega),List.append_assoc,List.getElem?_append_right (by simp;omega)];rw[List.length_take,Nat.min_eq_left (by omega),Nat.sub_self];rfl
  ·by_cases e1:j=m*2+1
   ·subst e1;rw[if_pos rfl,if_pos (by simp;omega),List.append_assoc,List.getElem?_append_right (by simp;omega)];rw[List.length_take,Nat.min_eq_left (by omega),show m*2+1 - m*2=1 by omega];rfl
   ·rw[if_neg (by omega),if_neg (by omega),List.getElem?_append_right (by simp;omega),List.getElem?_drop];congr 1
    simp;omega
 rw[show([Value.bool sb,Value.slice A n c]:List Value).length=2 from rfl,eC]at hrun;obtain⟨w',hw'⟩:∃w',w'=w.setRow g ((cs.setIfInBounds (m*2) (.bool sb)).setIfInBounds (m*2+1) (.slice A n c)):=⟨_,rfl⟩;have hg:w'.heap[g]? =(zputo w g (m*2) sb A n c).heap[g]? :=by
  rw[hw',setRow_heap w g cs _ _ _ h1];unfold zputo;rw[heap_setCell_same _ g _ _ _ _ (heap_setCell_same w g _ _ _ _ h1)]
 have hgr:w.grownBy w' (some g):=by
  subst hw';exact⟨rfl,rfl,rfl,by simp[World.setRow],fun j _ hj=>setRow_other w g j _ (fun e=>hj (by rw[e]))⟩
 have hgz:=d_9 w g (m*2) sb A n c;have hsz:(zputo w g (m*2) sb A n c).heap.size=w.heap.size:=by unfold zputo;simp
 have hbb:Below (zputo w g (m*2) sb A n c).heap.size (zputo w g (m*2) sb A n c) w':=by
  refine⟨hgr.os.trans hgz.os.symm,hgr.tape.trans hgz.tape.symm,hgr.output.trans hgz.output.symm,by rw[hsz];exact hgr.size,fun j hj=>?_⟩;rw[hsz]at hj;by_cases e:j=g
  ·subst e;exact hg
  ·exact(hgr.block j hj (fun h=>e (Option.some.inj h))).trans (hgz.block j hj (fun h=>e (Option.some.inj h))).symm
 rw[<-hw']at hrun;refine wpList_plain hgd fun K' hK'=>?_;unfold Oper.wp execOp;simp only[ho,resolve,invoke,builtin,Sem.run_bind,Sem.run_pure,Result.andThen_ok,List.map_toArray,List.map_cons,List.map_nil,hs,hx,hrun];exact hK' _ _ (K _ (hput.below hbb) hgr)
end
section
open Go.RowKit
theorem h_b {q:Bool}{r c n d k i j:Nat}{A:Option Addr}{F:Nat->Nat->Int}{w:World}(h:Mt q w r c A n d k F)(hi:i<r)(hj:j<c):Calls Try.prog 69 #[.agg #[.int .i64 (r:Int),.int .i64 (c:Int),.slice A n d],.int .i64 (i:Int),.int .i64 (j:Int)] w (RetK (kV (F i j) k) w):=by
 have h1:=h.hr;have h2:=h.hc;have h5:i*c<=64*64:=Nat.mul_le_mul (by omega) h2;obtain⟨w1,hw1,b3,b6,z1,s1⟩:=boxes2 w 24 30 [.int .i64 (r:Int),.int .i64 (c:Int),.slice A n d] [.bool false,.slice none 0 0];have HW:=Lib.hid hw1;have HZ:=Lib.hid z1;obtain⟨ad,rfl,hab,hlt,s_,A_,n_,c_,c0,c1,ze,hk⟩:=(h.below z1).elem hi hj;have hz:=ze.1;clear ze h;clear hw1 z1 s1;go_enter Try.func69,Try.ntmps69
 go_upto_region 1 with fail
 rw[HW.out];refine Run.start 10 ?_;refine .fa .o (fM2 2) ?_;refine .ld (.i 0) (ldSl b3 2) ?_;refine .mv .o ?_;refine .fa .o (fM1 1) ?_;refine .ld (.i 3) (ldInt b3 1) ?_;refine .two (.i 2) (.i 4) (opMulN i c (by omega)) ?_;refine .mv .o ?_;refine .two (.i 5) (.i 6) (opAddN (i*c) j (by omega)) ?_;refine .two (.i 1) (.i 7) (opIx hlt) ?_;refine .ld (.i 8) (ldE (by rw[a_a];exact hab) c0 c1) ?_;refine .donep [some 7,some 8,some 9,some 10,some 11,some 12,some 13,some 14,some 15,some 16] ?_;intro w2 B2;refine sh [_] ?_;simp only[Act.put,lS,lZ,lC];replace hz:=hz.below B2;clear c0 c1;have I:=Ib.entry (b6.below B2);have P:=Lib.hid (retV hz I (k:=k) (by omega) (by omega) (zup HZ.out B2));obtain⟨i1,i2,i3,i4,i5⟩:=I;clear hz
 go_wp2_with fail
 exact bodyPost_ret (v:=.agg #[.bool s_,.slice A_ n_ c_]) (by simp[results,Try.results69,go_sem,i1,i2]) rfl P.out
theorem i_a {q:Bool}{r c n d k i j:Nat}{A:Option Addr}{F:Nat->Nat->Int}{w:World}(h:Mt q w r c A n d k F)(hi:i<r)(hj:j<c)(hk:k<=1099511627776):Calls Try.prog 45 #[.agg #[.int .i64 (r:Int),.int .i64 (c:Int),.slice A n d],.int .i64 (i:Int),.int .i64 (j:Int)] w (RetK (kC (F i j) k) w):=by
 obtain⟨w1,hw1,b3,b6,z1,s1⟩:=boxes2 w 24 30 [.int .i64 (r:Int),.int .i64 (c:Int),.slice A n d] [.bool false,.slice none 0 0];have HW:=Lib.hid hw1;have HZ:=Lib.hid z1;replace h:=h.below z1;clear hw1 z1;go_enter Try.func45,Try.ntmps45
 go_upto_region 1 with fail
 rw[HW.out];refine Run.start 5 ?_;refine .ld .o (ldM b3 0) ?_;refine .mv .o ?_;refine .mv .o ?_;refine .c3 (.i 0) (.i 1) (.i 2) (x:=kV (F i j) k) (by rintro u v x w2 hB rfl rfl rfl;exact h_b (h.below hB) hi hj) ?_;refine .al ?_;refine .donep [some 8,some 9,some 10,some 11,some 7] ?_;intro w2 B2;rintro v7 ⟨s_,A_,n_,c_,rfl,hz,hk1⟩;intro g7 hg7 hl7 hc7 ha7;refine sh [_] ?_;simp only[Act.put,lS,lZ,lC];have b7:Bx w2 g7 30 [.bool false,.slice none 0 0]:=hc7.trans (congrArg some (by kernel_rfl));obtain⟨w3,hw3⟩:∃w3,(w2.setCell ⟨g7,0,none⟩ (.bool s_)).setCell ⟨g7,1,none⟩ (.slice A_ n_ c_)=w3:=⟨_,rfl⟩;have hs1:=s1;obtain⟨i1,i2,i3,i4,i5⟩:=Ib.entry b7;have hz3:Zv w3 s_ A_ n_ c_ (F i j):=by rw[<-hw3];exact hz.put (Ib.entry b7)
 have b7':Bx w3 g7 30 [.bool s_,.slice A_ n_ c_]:=by rw[<-hw3];exact(b7.set 0 _).set 1 _
 have b6':Bx w3 (w.heap.size+1) 30 [.bool false,.slice none 0 0]:=by rw[<-hw3];exact((b6.below B2).off (by omega) _ _).off (by omega) _ _
 have B3:Below w.heap.size w w3:=by rw[<-hw3];exact((zup HZ.out B2).setCell (by show w.heap.size<=g7;omega) _).setCell (by show w.heap.size<=g7;omega) _
 have HW3:=Lib.hid hw3;clear hw3 hz b7 hc7 hg7 hl7 ha7 hs1;go_upto_region 2 with fail
 rw[HW3.out];clear i1 i2 i3 i4 i5 HW3;refine Run.start 5 ?_;refine .fa .o (fZ1 1) ?_;refine .ld (.i 0) (ldNat b7' 1) ?_;refine .fa .o (fZ0 0) ?_;refine .ld (.i 2) (ldBool b7' 0) ?_;refine .c2 (.i 1) (.i 3) (x:=kC (F i j) k) (by rintro u v w2 hB rfl rfl;exact j_h (hz3.below hB) hk1 hk) ?_;refine .donep [some 12,some 13,some 14,some 15,some 16] ?_;intro w4 B4;rintro v8 ⟨s8,A8,n8,c8,rfl,hz,hk8⟩;refine sh [_] ?_;simp only[Act.put,lS,lZ,lC];have I:=Ib.entry (b6'.below B4);have P:=Lib.hid (retC hz I (k:=k) (by omega) (by omega) (zup B3 B4));obtain⟨i1,i2,i3,i4,i5⟩:=I;clear hz
 go_wp2_with fail
 exact bodyPost_ret (v:=.agg #[.bool s8,.slice A8 n8 c8]) (by simp[results,Try.results45,go_sem,i1,i2]) rfl P.out
end
end Go.Proofs.Ytlgjjnmmepgafaa
