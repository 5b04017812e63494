/- Pc10 -/
import Derived.Test.YtfhbdlegkdbmfaaGreatPc09
import Derived.Laws.AppendOwn
set_option linter.unusedVariables false
set_option linter.unusedSimpArgs false
set_option linter.unusedSectionVars false
set_option maxRecDepth 100000
set_option maxHeartbeats 8000000
namespace Go.Proofs.YtfhbdlegkdbmfaaGreat
section
open Go.RowKit
def mk (r c:Nat)(F:Nat->Nat->Int):List Int:=(List.range (r*c)).map fun m=>F (m / c) (m%c)
theorem a_1 (r c:Nat)(F:Nat->Nat->Int):(mk r c F).length=r*c:=by simp[mk]
theorem g_x {r c i j:Nat}(hi:i<r)(hj:j<c):i*c+j<r*c:=by
 have:i*c+c<=r*c:=by rw[<-Nat.succ_mul];exact Nat.mul_le_mul_right c hi
 omega
theorem g_m {r c i j:Nat}{F:Nat->Nat->Int}(hi:i<r)(hj:j<c):ith (mk r c F) (i*c+j)=F i j:=by
 have h:=g_x hi hj;have h1:(i*c+j) / c=i:=by rw[Nat.mul_comm,Nat.mul_add_div (by omega),Nat.div_eq_of_lt hj];omega
 have h2:(i*c+j)%c=j:=by rw[Nat.mul_comm,Nat.mul_add_mod,Nat.mod_eq_of_lt hj]
 simp[ith,mk,List.getD,h,h1,h2]
theorem r_9 {r c m:Nat}(h:m<r*c):m / c<r/\m%c<c/\m / c*c+m%c=m:=by
 have hc:0<c:=Nat.pos_of_ne_zero fun e=>by subst e;simp at h
 exact⟨Nat.div_lt_of_lt_mul (by rw[Nat.mul_comm];exact h),Nat.mod_lt _ hc,by rw[Nat.mul_comm];exact Nat.div_add_mod m c⟩
theorem m_w {r c:Nat}{F G:Nat->Nat->Int}(h:∀i j,i<r->j<c->F i j=G i j):mk r c F=mk r c G:=by
 unfold mk;apply List.map_congr_left;intro m hm;obtain⟨h1,h2,_⟩:=r_9 (List.mem_range.1 hm);exact h _ _ h1 h2
theorem r_k {r c:Nat}{zs:List Int}(h:zs.length=r*c):mk r c (fun i j=>ith zs (i*c+j))=zs:=by
 apply List.ext_getElem
 ·rw[a_1,h]
 ·intro m h1 h2;obtain⟨e1,e2,e3⟩:=r_9 (r:=r) (c:=c) (m:=m) (by rw[<-h];exact h2);simp[mk,e3,ith,List.getD,h2]
def fil (l:List Int)(m:Nat):List Int:=l.take m++List.replicate (l.length - m) 0
theorem i_q (l:List Int):fil l 0=List.replicate l.length 0:=by simp[fil]
theorem l_a (l:List Int):fil l l.length=l:=by simp[fil]
theorem c_g {l:List Int}{m:Nat}(h:m<=l.length):(fil l m).length=l.length:=by simp[fil];omega
theorem q_b {l:List Int}{m:Nat}(h:m<l.length):(fil l m).set m (ith l m)=fil l (m+1):=by
 apply List.ext_getElem
 ·rw[List.length_set,c_g (by omega),c_g (by omega)]
 ·intro j h1 h2;rw[c_g (by omega)]at h2;rw[List.getElem_set];by_cases e:m=j
  ·subst e;rw[if_pos rfl];simp only[fil];rw[List.getElem_append_left (by simp;omega)];simp[ith,List.getD,h2]
  ·rw[if_neg e];simp only[fil];rcases Nat.lt_or_ge j m with h3|h3
   ·rw[List.getElem_append_left (by simp;omega),List.getElem_append_left (by simp;omega)];simp
   ·rw[List.getElem_append_right (by simp;omega),List.getElem_append_right (by simp;omega)];simp
def kC (z:Int)(k:Nat):FK:=.f (IsC z k) (q_4 z k)
def kV (z:Int)(k:Nat):FK:=.f (IsV z k) (q_2 z k)
theorem IsC.v {z:Int}{k:Nat}{v:Value}{w:World}(h:IsC z k v w):IsV z k v w:=by
 obtain⟨s,A,n,c,e,h1,h2⟩:=h;exact⟨s,A,n,c,e,h1.zv,h2⟩
structure Mt (q:Bool) (w:World) (r c:Nat) (A:Option Addr) (n d k:Nat) (F:Nat->Nat->Int):Prop where
 zl:ZL q w A n d k (mk r c F)
 hr:r<=64
 hc:c<=64
section
variable {q:Bool}{w w':World}{r c n d k k':Nat}{A:Option Addr}{F G:Nat->Nat->Int}
theorem Mt.below (h:Mt q w r c A n d k F)(hb:Below w.heap.size w w'):Mt q w' r c A n d k F:=⟨h.zl.below hb,h.hr,h.hc⟩
theorem Mt.len (h:Mt q w r c A n d k F):n=r*c:=by have:=h.zl.len;rw[a_1]at this;exact this.symm
theorem Mt.congr (h:Mt q w r c A n d k F)(e:∀i j,i<r->j<c->F i j=G i j):Mt q w r c A n d k G:=⟨by rw[<-m_w e];exact h.zl,h.hr,h.hc⟩
theorem Mt.fmd (h:Mt q w r c A n d k F):fmd (r:Int) (c:Int) n=true:=by
 have h1:=h.hr;have h2:=h.hc;have h3:=h.len;unfold Proofs.YtfhbdlegkdbmfaaGreat.fmd sd;simp only[Bool.and_eq_true,decide_eq_true_eq];refine⟨⟨⟨by omega,by omega⟩,by omega,by omega⟩,by rw[h3];simp⟩
theorem Mt.elem (h:Mt q w r c A n d k F){i j:Nat}(hi:i<r)(hj:j<c):∃ad,A=some ad/\ad.block<w.heap.size/\i*c+j<n/\ZAt q w (ad.add ((i*c+j)*2)) k (F i j):=by
 have hl:i*c+j<n:=by rw[h.len];exact g_x hi hj
 obtain⟨ad,e,h1,h2⟩:=h.zl.at hl;rw[g_m hi hj]at h2;exact⟨ad,e,h1,hl,h2⟩
end
def IsM (q:Bool)(r c k:Nat)(F:Nat->Nat->Int):FVal:=fun v w=>∃A n d,v= .agg #[.int .i64 (r:Int),.int .i64 (c:Int),.slice A n d]/\Mt q w r c A n d k F
def kM (q:Bool)(r c k:Nat)(F:Nat->Nat->Int):FK:=.f (IsM q r c k F) (fun v w w' ⟨A,n,d,e,h⟩ hb=>⟨A,n,d,e,h.below hb⟩)
theorem RetK.mono {x y:FK}{w w':World}{e:Ending}(h:RetK x w e w')(hxy:∀v w,x.F v w->y.F v w):RetK y w e w':=by
 obtain⟨u,e,h1,h2⟩:=h;exact⟨u,e,hxy _ _ h1,h2⟩
theorem ZPost.q {z:Int}{k k':Nat}{w w':World}{e:Ending}(h:ZPost z k w e w')(hk:k<=k'):RetK (kC z k') w e w':=by
 obtain⟨s,A,n,c,e,h1,h2,h3⟩:=h;exact⟨_,e,⟨s,A,n,c,rfl,h1,by omega⟩,h3⟩
section
variable {u v:Value}{x y:Int}{n m k:Nat}{w:World}
theorem j_w (hx:IsV x n u w)(hy:IsV y m v w)(hn:n<=1099511627776)(hm:m<=1099511627776)(hk:max n m+1<=k):Calls Tryz.prog 121 #[u,v] w (RetK (kC (x+y) k) w):=by
 obtain⟨s,A,a,c,rfl,h1,h2⟩:=hx;obtain⟨s',A',a',c',rfl,h1',h2'⟩:=hy;exact(n_q h1 h1' (by omega) (by omega)).mono fun e w' h=>h.q (by omega)
theorem j_o (hx:IsV x n u w)(hy:IsV y m v w)(hn:n<=1099511627776)(hm:m<=1099511627776)(hk:max n m+1<=k):Calls Tryz.prog 133 #[u,v] w (RetK (kC (x - y) k) w):=by
 obtain⟨s,A,a,c,rfl,h1,h2⟩:=hx;obtain⟨s',A',a',c',rfl,h1',h2'⟩:=hy;exact(h_0 h1 h1' (by omega) (by omega)).mono fun e w' h=>h.q (by omega)
theorem d_r (hx:IsV x n u w)(hy:IsV y m v w)(hn:n<=1099511627776)(hm:m<=1099511627776)(hk:n+m<=k):Calls Tryz.prog 50 #[u,v] w (RetK (kC (x*y) k) w):=by
 obtain⟨s,A,a,c,rfl,h1,h2⟩:=hx;obtain⟨s',A',a',c',rfl,h1',h2'⟩:=hy;exact(j_s h1 h1' (by omega) (by omega)).mono fun e w' h=>h.q (by omega)
theorem q_p (hx:IsV x n u w)(hn:n<=1099511627776):Calls Tryz.prog 124 #[u] w (RetK (kC (-x) n) w):=by
 obtain⟨s,A,a,c,rfl,h1,h2⟩:=hx;exact(q_o h1 (by omega)).mono fun e w' h=>h.q (by omega)
theorem j_r (h1:-9223372036854775808<=x)(h2:x<=9223372036854775807)(w:World):Calls Tryz.prog 18 #[.int .i64 x] w (RetK (kC x 1) w):=(s_d x h1 h2 w).mono fun e w' h=>h.q (Nat.le_refl _)
theorem IPost.q {r:Int}{w w':World}{e:Ending}(h:IPost r w e w'):RetK (.k (.int .i64 r)) w e w':=⟨_,h.1,rfl,h.2⟩
theorem a_m {r:Int}(hx:IsV x n u w)(hn:n<=1099511627776)(hr:x.sign=r):Calls Tryz.prog 11 #[u] w (RetK (.k (.int .i64 r)) w):=by
 obtain⟨s,A,a,c,rfl,h1,h2⟩:=hx;exact(f_c h1 (by omega) hr).mono fun e w' h=>h.q
theorem j_p {b:Bool}(hx:IsV x n u w)(hy:IsV y m v w)(hn:n<=1099511627776)(hm:m<=1099511627776)(hb:decide (x=y)=b):Calls Tryz.prog 17 #[u,v] w (RetK (.k (.bool b)) w):=by
 obtain⟨s,A,a,c,rfl,h1,h2⟩:=hx;obtain⟨s',A',a',c',rfl,h1',h2'⟩:=hy;exact(o_e h1 h1' (by omega) (by omega) hb).mono fun e w' h=>⟨_,h.1,rfl,h.2⟩
end
theorem o_f {s:Bool}{A:Option Addr}{n c k:Nat}{z:Int}{w:World}(h:Zv w s A n c z)(hn:n<=k)(hk:k<=1099511627776):Calls Tryz.prog 112 #[.slice A n c,.bool s] w (RetK (kC z k) w):=by
 obtain⟨v,h1,h2⟩:=h;rw[h2.out];exact(j_t h1 (by omega)).mono fun e w' h=>h.q (by omega)
theorem zp_cells:Tryz.prog.cellsOf 31=2:=by kernel_rfl
theorem k_g {w:World}{ad:Addr}{n c k:Nat}(h:k<n):(Instr.indexAt 25 (.slice (some ad) n c) (.int .i64 (k:Int))).run Tryz.prog w= .ok (.pointer (some (ad.add (k*2)))) w:=by
 simp[go_sem,Tryz.underlying25,zp_cells];omega
theorem opIx {ad:Addr}{n c k:Nat}{X Y:Operand}(h:k<n)(w:World):RunTwo Tryz.prog (.indexAddr 25 X Y) w (.slice (some ad) n c) (.int .i64 (k:Int)) (.pointer (some (ad.add (k*2)))):=k_g h
theorem ldE {w:World}{p:Addr}{s:Bool}{A:Option Addr}{n c:Nat}(hp:p.block<w.heap.size)(h0:w.cell? p=some (.bool s))(h1:w.cell? ⟨p.block,p.off+1,none⟩=some (.slice A n c)):∀w',Below w.heap.size w w'->(Instr.loadAt 31 (.pointer (some p))).run Tryz.prog w'= .ok (.agg #[.bool s,.slice A n c]) w':=fun w' hb=>
 m_h ((hb.cell hp).trans h0) ((hb.cell (p:=⟨p.block,p.off+1,none⟩) hp).trans h1)
theorem retC {w w2:World}{A B:Option Addr}{n c g k m d:Nat}{s t:Bool}{z:Int}(h:Zc w2 s A n c z)(hi:Ib w2 g t B m d)(hk:n<=k)(hg:w.heap.size<=g)(hB:Below w.heap.size w w2):
  RetK (kC z k) w (.returned (.agg #[.bool s,.slice A n c])) ((w2.setCell ⟨g,0,none⟩ (.bool s)).setCell ⟨g,1,none⟩ (.slice A n c)):=(zfin h hi hk hg hB).q (Nat.le_refl _)
theorem retV {w w2:World}{A B:Option Addr}{n c g k m d:Nat}{s t:Bool}{z:Int}(h:Zv w2 s A n c z)(hi:Ib w2 g t B m d)(hk:n<=k)(hg:w.heap.size<=g)(hB:Below w.heap.size w w2):
  RetK (kV z k) w (.returned (.agg #[.bool s,.slice A n c])) ((w2.setCell ⟨g,0,none⟩ (.bool s)).setCell ⟨g,1,none⟩ (.slice A n c)):=
 ⟨_,rfl,⟨s,A,n,c,rfl,h.put hi,hk⟩,a_l hB hg⟩
theorem e_y {P:Program}{w:World}{ops:Array Oper}{rest:List Oper}{o:Oper}{a:Act}{Q:Exit->Act->World->Prop}(hgd:o.guard=none)(s x:Operand)(t:TypeId)
  (ho:o.op= .call { callee:=.builtin .append,args:=#[s,x],argTypes:=#[t,t] })
  (ht:P.underlying t=some (.slice 31)) (hinfo:(P.info? 31).map (fun i=>(i.zero,i.size,i.bytes))=some (some (.agg #[.bool false,.slice none 0 0]),2,32))
  {g k m cap h n c:Nat} {sb:Bool} {A:Option Addr} {z:Int} {zs:List Int} (hs:a.eval s= .slice (some ⟨g,0,none⟩) m cap) (hx:a.eval x= .slice (some ⟨h,0,none⟩) 1 1)
  (hone:Bx w h 31 [.bool sb,.slice A n c]) (hz:Zc w sb A n c z) (hn:n<=k) (hb:ZB w g k zs) (hm:m<zs.length) (hcap:cap=zs.length)
  (K:∀w',ZB w' g k (zs.set m z)->w.grownBy w' (some g)->wpList P ops Q rest (a.put o.dst (.slice (some ⟨g,0,none⟩) (m+1) cap)) w'):
  wpList P ops Q (o::rest) a w:=by
 obtain⟨i,hi,hz0,hz1,hz2⟩:=info_parts hinfo;have hno:=hb.now;have hput:=hb.put (j:=m) hm hz hn;obtain⟨cs,h1,h2,h3⟩:=hb;have c0:=hone.cell 0;have c1:=hone.cell 1;simp at c0 c1;have hrun:=run_append_room (P:=P) w t o.type 31 i ht hi g m cap cs h1 ⟨h,0,none⟩ 1 1 [.bool sb,.slice A n c] (by rw[hz1];rfl) (fun j u hu=>by
   rw[b_i];match j,hu with
   |0,hu=>simp at hu;subst hu;exact c0
   |1,hu=>simp at hu;subst hu;exact c1) (fun u hu=>by
   simp at hu;rcases hu with rfl|rfl<;>rfl) (by omega) (by rw[hz1,h2];simp;omega)
 rw[hz1]at hrun;have eC:(cs.toList.take (m*2)++[Value.bool sb,.slice A n c]++cs.toList.drop (m*2+2)).toArray=(cs.setIfInBounds (m*2) (.bool sb)).setIfInBounds (m*2+1) (.slice A n c):=by
  apply Array.ext';simp only[Array.toList_setIfInBounds];apply List.ext_getElem?;intro j;have hl:m*2+1<cs.toList.length:=by rw[Array.length_toList,h2];omega
  rw[List.getElem?_set,List.getElem?_set];rcases Nat.lt_trichotomy j (m*2)with e|e|e
  ·rw[if_neg (by omega),if_neg (by omega),List.append_assoc,List.getElem?_append_left (by simp;omega),List.getElem?_take_of_lt e]
  ·subst e;rw[if_neg (by omega),if_pos rfl,if_pos (by omega),List.append_assoc,List.getElem?_append_right (by simp;omega)];rw[List.length_take,Nat.min_eq_left (by omega),Nat.sub_self];rfl
  ·by_cases e1:j=m*2+1
   ·subst e1;rw[if_pos rfl,if_pos (by simp;omega),List.append_assoc,List.getElem?_append_right (by simp;omega)];rw[List.length_take,Nat.min_eq_left (by omega),show m*2+1 - m*2=1 by omega];rfl
   ·rw[if_neg (by omega),if_neg (by omega),List.getElem?_append_right (by simp;omega),List.getElem?_drop];congr 1
    simp;omega
 rw[show([Value.bool sb,Value.slice A n c]:List Value).length=2 from rfl,eC]at hrun;obtain⟨w',hw'⟩:∃w',w'=w.setRow g ((cs.setIfInBounds (m*2) (.bool sb)).setIfInBounds (m*2+1) (.slice A n c)):=⟨_,rfl⟩;have hg:w'.heap[g]? =(zputo w g (m*2) sb A n c).heap[g]? :=by
  rw[hw',setRow_heap w g cs _ _ _ h1];unfold zputo;rw[heap_setCell_same _ g _ _ _ _ (heap_setCell_same w g _ _ _ _ h1)]
 have hgr:w.grownBy w' (some g):=by
  subst hw';exact⟨rfl,rfl,rfl,by simp[World.setRow],fun j _ hj=>setRow_other w g j _ (fun e=>hj (by rw[e]))⟩
 have hgz:=a_w w g (m*2) sb A n c;have hsz:(zputo w g (m*2) sb A n c).heap.size=w.heap.size:=by unfold zputo;simp
 have hbb:Below (zputo w g (m*2) sb A n c).heap.size (zputo w g (m*2) sb A n c) w':=by
  refine⟨hgr.os.trans hgz.os.symm,hgr.tape.trans hgz.tape.symm,hgr.output.trans hgz.output.symm,by rw[hsz];exact hgr.size,fun j hj=>?_⟩;rw[hsz]at hj;by_cases e:j=g
  ·subst e;exact hg
  ·exact(hgr.block j hj (fun h=>e (Option.some.inj h))).trans (hgz.block j hj (fun h=>e (Option.some.inj h))).symm
 rw[<-hw']at hrun;refine wpList_plain hgd fun K' hK'=>?_;unfold Oper.wp execOp;simp only[ho,resolve,invoke,builtin,Sem.run_bind,Sem.run_pure,Result.andThen_ok,List.map_toArray,List.map_cons,List.map_nil,hs,hx,hrun];exact hK' _ _ (K _ (hput.below hbb) hgr)
end
section
open Go.RowKit
theorem h_f {q:Bool}{r c n d k i j:Nat}{A:Option Addr}{F:Nat->Nat->Int}{w:World}(h:Mt q w r c A n d k F)(hi:i<r)(hj:j<c):Calls Tryz.prog 75 #[.agg #[.int .i64 (r:Int),.int .i64 (c:Int),.slice A n d],.int .i64 (i:Int),.int .i64 (j:Int)] w (RetK (kV (F i j) k) w):=by
 have h1:=h.hr;have h2:=h.hc;have h5:i*c<=64*64:=Nat.mul_le_mul (by omega) h2;obtain⟨w1,hw1,b3,b6,z1,s1⟩:=boxes2 w 27 31 [.int .i64 (r:Int),.int .i64 (c:Int),.slice A n d] [.bool false,.slice none 0 0];have HW:=Lib.hid hw1;have HZ:=Lib.hid z1;obtain⟨ad,rfl,hab,hlt,s_,A_,n_,c_,c0,c1,ze,hk⟩:=(h.below z1).elem hi hj;have hz:=ze.1;clear ze h;clear hw1 z1 s1;go_enter Tryz.func75,Tryz.ntmps75
 go_upto_region 1 with fail
 rw[HW.out];refine Run.start 10 ?_;refine .fa .o (fM2 2) ?_;refine .ld (.i 0) (ldSl b3 2) ?_;refine .mv .o ?_;refine .fa .o (fM1 1) ?_;refine .ld (.i 3) (ldInt b3 1) ?_;refine .two (.i 2) (.i 4) (opMulN i c (by omega)) ?_;refine .mv .o ?_;refine .two (.i 5) (.i 6) (opAddN (i*c) j (by omega)) ?_;refine .two (.i 1) (.i 7) (opIx hlt) ?_;refine .ld (.i 8) (ldE (by rw[a_b];exact hab) c0 c1) ?_;refine .donep [some 7,some 8,some 9,some 10,some 11,some 12,some 13,some 14,some 15,some 16] ?_;intro w2 B2;refine sh [_] ?_;simp only[Act.put,lS,lZ,lC];replace hz:=hz.below B2;clear c0 c1;have I:=Ib.entry (b6.below B2);have P:=Lib.hid (retV hz I (k:=k) (by omega) (by omega) (zup HZ.out B2));obtain⟨i1,i2,i3,i4,i5⟩:=I;clear hz
 go_wp2_with fail
 exact bodyPost_ret (v:=.agg #[.bool s_,.slice A_ n_ c_]) (by simp[results,Tryz.results75,go_sem,i1,i2]) rfl P.out
theorem i_g {q:Bool}{r c n d k i j:Nat}{A:Option Addr}{F:Nat->Nat->Int}{w:World}(h:Mt q w r c A n d k F)(hi:i<r)(hj:j<c)(hk:k<=1099511627776):Calls Tryz.prog 71 #[.agg #[.int .i64 (r:Int),.int .i64 (c:Int),.slice A n d],.int .i64 (i:Int),.int .i64 (j:Int)] w (RetK (kC (F i j) k) w):=by
 obtain⟨w1,hw1,b3,b6,z1,s1⟩:=boxes2 w 27 31 [.int .i64 (r:Int),.int .i64 (c:Int),.slice A n d] [.bool false,.slice none 0 0];have HW:=Lib.hid hw1;have HZ:=Lib.hid z1;replace h:=h.below z1;clear hw1 z1;go_enter Tryz.func71,Tryz.ntmps71
 go_upto_region 1 with fail
 rw[HW.out];refine Run.start 5 ?_;refine .ld .o (ldM b3 0) ?_;refine .mv .o ?_;refine .mv .o ?_;refine .c3 (.i 0) (.i 1) (.i 2) (x:=kV (F i j) k) (by rintro u v x w2 hB rfl rfl rfl;exact h_f (h.below hB) hi hj) ?_;refine .al ?_;refine .donep [some 8,some 9,some 10,some 11,some 7] ?_;intro w2 B2;rintro v7 ⟨s_,A_,n_,c_,rfl,hz,hk1⟩;intro g7 hg7 hl7 hc7 ha7;refine sh [_] ?_;simp only[Act.put,lS,lZ,lC];have b7:Bx w2 g7 31 [.bool false,.slice none 0 0]:=hc7.trans (congrArg some (by kernel_rfl));obtain⟨w3,hw3⟩:∃w3,(w2.setCell ⟨g7,0,none⟩ (.bool s_)).setCell ⟨g7,1,none⟩ (.slice A_ n_ c_)=w3:=⟨_,rfl⟩;have hs1:=s1;obtain⟨i1,i2,i3,i4,i5⟩:=Ib.entry b7;have hz3:Zv w3 s_ A_ n_ c_ (F i j):=by rw[<-hw3];exact hz.put (Ib.entry b7)
 have b7':Bx w3 g7 31 [.bool s_,.slice A_ n_ c_]:=by rw[<-hw3];exact(b7.set 0 _).set 1 _
 have b6':Bx w3 (w.heap.size+1) 31 [.bool false,.slice none 0 0]:=by rw[<-hw3];exact((b6.below B2).off (by omega) _ _).off (by omega) _ _
 have B3:Below w.heap.size w w3:=by rw[<-hw3];exact((zup HZ.out B2).setCell (by show w.heap.size<=g7;omega) _).setCell (by show w.heap.size<=g7;omega) _
 have HW3:=Lib.hid hw3;clear hw3 hz b7 hc7 hg7 hl7 ha7 hs1;go_upto_region 2 with fail
 rw[HW3.out];clear i1 i2 i3 i4 i5 HW3;refine Run.start 5 ?_;refine .fa .o (fZ1 1) ?_;refine .ld (.i 0) (ldNat b7' 1) ?_;refine .fa .o (fZ0 0) ?_;refine .ld (.i 2) (ldBool b7' 0) ?_;refine .c2 (.i 1) (.i 3) (x:=kC (F i j) k) (by rintro u v w2 hB rfl rfl;exact o_f (hz3.below hB) hk1 hk) ?_;refine .donep [some 12,some 13,some 14,some 15,some 16] ?_;intro w4 B4;rintro v8 ⟨s8,A8,n8,c8,rfl,hz,hk8⟩;refine sh [_] ?_;simp only[Act.put,lS,lZ,lC];have I:=Ib.entry (b6'.below B4);have P:=Lib.hid (retC hz I (k:=k) (by omega) (by omega) (zup B3 B4));obtain⟨i1,i2,i3,i4,i5⟩:=I;clear hz
 go_wp2_with fail
 exact bodyPost_ret (v:=.agg #[.bool s8,.slice A8 n8 c8]) (by simp[results,Tryz.results71,go_sem,i1,i2]) rfl P.out
theorem q_r {i j:Nat}(w:World):Calls Tryz.prog 162 #[.int .i64 (i:Int),.int .i64 (j:Int)] w (RetK (kC (if i=j then 1 else 0) 1) w):=by
 obtain⟨z,hz0⟩:∃z:Int,(if i=j then 1 else 0)=z:=⟨_,rfl⟩;have Hz:=Lib.hid hz0;rw[hz0];obtain⟨w1,hw1,b4,z1,s1⟩:=boxes1 w 31 [.bool false,.slice none 0 0];have HW:=Lib.hid hw1;have HZ:=Lib.hid z1;clear hw1 z1 s1 hz0;go_enter Tryz.func162,Tryz.ntmps162
 go_upto_region 1 with fail
 rw[HW.out];by_cases hij:i=j
 ·have u1:(i:Int)=(j:Int):=by omega
  have e1:z=1:=by rw[<-Hz.out,if_pos hij]
  subst e1;clear hij Hz;go_upto_region 2 with fail
  refine Run.start 1 ?_;refine .c1 .o (x:=kC 1 1) (by rintro u w2 hB rfl;exact j_r (by decide) (by decide) w2) ?_;refine .donep [some 8] ?_;intro w2 B2;rintro v ⟨s_,A_,n_,c_,rfl,hz,hk⟩;refine sh [_] ?_;simp only[Act.put,lS,lZ,lC];have I:=Ib.entry (b4.below B2);have P:=Lib.hid (retC hz I (k:=1) (by omega) (by omega) (zup HZ.out B2));obtain⟨i1,i2,i3,i4,i5⟩:=I;clear hz
  go_wp2_with fail
  exact bodyPost_ret (v:=.agg #[.bool s_,.slice A_ n_ c_]) (by simp[results,Tryz.results162,go_sem,i1,i2]) rfl P.out
 ·have u1:¬(i:Int)=(j:Int):=by omega
  have e1:z=0:=by rw[<-Hz.out,if_neg hij]
  subst e1;clear hij Hz;have I:=Ib.entry b4;have P:=Lib.hid (retC (Zc.nought w1) I (k:=1) (by omega) (by omega) HZ.out);obtain⟨i1,i2,i3,i4,i5⟩:=I
  go_wp2_with fail
  exact bodyPost_ret (v:=.agg #[.bool false,.slice none 0 0]) (by simp[results,Tryz.results162,go_sem,i1,i2]) rfl P.out
end
section
open Go.RowKit
theorem c_0 {P:Program}(w:World){ops:Array Oper}{rest:List Oper}{o:Oper}{a:Act}{Q:Exit->Act->World->Prop}
  (hg:o.guard=none) (l c:Operand) (t:TypeId) (hop:o.op=Op.makeSlice t l c)
  (ht:P.underlying t=some (.slice 31)) (hinfo:(P.info? 31).map (fun i=>(i.zero,i.size,i.bytes))=some (some (.agg #[.bool false,.slice none 0 0]),2,32))
  (n:Nat) (hl:a.eval l= .int .i64 0) (hc:a.eval c= .int .i64 (n:Int)) (hbytes:n<=8796093022208)
  (hK:∀w',ZB w' w.heap.size 0 (List.replicate n 0)->Below w.heap.size w w'->w'.heap.size=w.heap.size+1->wpList P ops Q rest (a.put o.dst (.slice (some ⟨w.heap.size,0,none⟩) 0 n)) w'):
  wpList P ops Q (o::rest) a w:=by
 obtain⟨i,hi,hz0,hz1,hz2⟩:=info_parts hinfo;have hrun:=run_make (P:=P) w t 31 i (.agg #[.bool false,.slice none 0 0]) ht hi hz0 .i64 .i64 0 (n:Int) (by omega) (by omega) (by rw[hz2];omega) (by omega);refine wpList_plain hg fun K hK'=>?_;unfold Oper.wp;simp[execOp,hop,hl,hc,hrun,Result.andThen];refine hK' _ _ (hK _ ?_ ((Below.refl _ _).alloc (Nat.le_refl _) _) (by simp));rw[hz1];exact ZB.made w n
theorem Bx.now {w:World}{g:Nat}{T:TypeId}{cs:List Value}(b:Bx w g T cs)(h:∀v,v∈cs->∀m:Int,v≠ .int .u64 m):Wless w g:=fun p m hp hc=>by
 have e:w.cell? p=cs[p.off]? \/w.cell? p=none:=by
  unfold World.cell?;rw[hp,b];by_cases hs:p.spot=none
  ·left;simp[hs]
  ·right;simp[hs]
 rcases e with e|e
 ·rw[e]at hc;exact h _ (List.mem_of_getElem? hc) m rfl
 ·rw[e]at hc;cases hc
theorem ZL.apart {q:Bool}{w:World}{ad:Addr}{n c k g:Nat}{zs:List Int}{T:TypeId}{cs:List Value}(h:ZL q w (some ad) n c k zs)(h0:0<n)(b:Bx w g T cs)(hb:∀v,v∈cs->∀s,v≠ .bool s):ad.block≠g:=fun e=>by
 obtain⟨s,A,m,d,h1,_⟩:=h.elem h0;rw[Nat.zero_mul,a_y]at h1;have e1:w.cell? ad=cs[ad.off]? \/w.cell? ad=none:=by
  unfold World.cell?;rw[e,b];by_cases hs:ad.spot=none
  ·left;simp[hs]
  ·right;simp[hs]
 rcases e1 with e1|e1
 ·rw[e1]at h1;exact hb _ (List.mem_of_getElem? h1) s rfl
 ·rw[e1]at h1;cases h1
theorem ZL.box {q:Bool}{w w':World}{A:Option Addr}{n c k g:Nat}{zs:List Int}{T:TypeId}{cs:List Value}(h:ZL q w A n c k zs)(b:Bx w g T cs)(hb:∀v,v∈cs->∀s,v≠ .bool s)(hw:∀v,v∈cs->∀m:Int,v≠ .int .u64 m)(hg:w.grownBy w' (some g)):ZL q w' A n c k zs:=by
 by_cases h0:0<n
 ·obtain⟨ad,e,_⟩:=h.at' h0;subst e;exact h.gro (fun a ha=>by cases ha;exact h.apart h0 b hb) (b.now hw) hg
 ·exact⟨h.len,h.le,h.cap,fun h1=>absurd h1 h0⟩
def mput (w:World)(g:Nat)(r c:Int)(A:Option Addr)(n d:Nat):World:=((w.setCell ⟨g,0,none⟩ (.int .i64 r)).setCell ⟨g,1,none⟩ (.int .i64 c)).setCell ⟨g,2,none⟩ (.slice A n d)
theorem d_1 (w:World)(g:Nat)(r c:Int)(A:Option Addr)(n d:Nat):w.grownBy (mput w g r c A n d) (some g):=a_8 (q:=⟨g,2,none⟩) (a_8 (q:=⟨g,1,none⟩) (a_8 (q:=⟨g,0,none⟩) (a_6 w (some g)) rfl _) rfl _) rfl _
theorem a_j {b g:Nat}{w w2:World}{r c:Int}{A:Option Addr}{n d:Nat}(h:Below b w w2)(hg:b<=g):Below b w (mput w2 g r c A n d):=((h.setCell hg _).setCell hg _).setCell hg _
theorem Mt.box {q:Bool}{w w':World}{A:Option Addr}{r c n d k g:Nat}{F:Nat->Nat->Int}{T:TypeId}{cs:List Value}(h:Mt q w r c A n d k F)(b:Bx w g T cs)(hb:∀v,v∈cs->∀s,v≠ .bool s)(hw:∀v,v∈cs->∀m:Int,v≠ .int .u64 m)(hg:w.grownBy w' (some g)):Mt q w' r c A n d k F:=⟨h.zl.box b hb hw hg,h.hr,h.hc⟩
theorem Mt.put {q:Bool}{w:World}{A B:Option Addr}{r c n d k g m e:Nat}{x y r' c':Int}{C:Option Addr}{n' d':Nat}{F:Nat->Nat->Int}(h:Mt q w r c A n d k F)(b:Bx w g 27 [.int .i64 x,.int .i64 y,.slice B m e]):Mt q (mput w g r' c' C n' d') r c A n d k F:=
 h.box b (by simp) (by simp) (d_1 _ _ _ _ _ _ _)
theorem retM {q:Bool}{w w2:World}{A B:Option Addr}{r c n d k g m e:Nat}{x y:Int}{F:Nat->Nat->Int}(h:Mt q w2 r c A n d k F)(b:Bx w2 g 27 [.int .i64 x,.int .i64 y,.slice B m e])(hg:w.heap.size<=g)(hB:Below w.heap.size w w2):
  RetK (kM q r c k F) w (.returned (.agg #[.int .i64 (r:Int),.int .i64 (c:Int),.slice A n d])) (mput w2 g (r:Int) (c:Int) A n d):=⟨_,rfl,⟨A,n,d,rfl,h.put b⟩,a_j hB hg⟩
theorem retME {q:Bool}{w w2:World}{A B:Option Addr}{r c n d k g m e:Nat}{x y:Int}{F:Nat->Nat->Int}(h:Mt q w2 r c A n d k F)(b:Bx w2 g 27 [.int .i64 x,.int .i64 y,.slice B m e])(hg:w.heap.size<=g)(hB:Below w.heap.size w w2):
  RetK (kT (kM q r c k F) (.k (.int .i64 0))) w (.returned (.tuple #[.agg #[.int .i64 (r:Int),.int .i64 (c:Int),.slice A n d],.int .i64 0])) (mput w2 g (r:Int) (c:Int) A n d):=⟨_,rfl,⟨_,_,rfl,⟨A,n,d,rfl,h.put b⟩,rfl⟩,a_j hB hg⟩
def IsOne (b:Nat)(z:Int)(k:Nat):FVal:=fun v w=>∃g s A n c,v= .slice (some ⟨g,0,none⟩) 1 1/\Bx w g 31 [.bool s,.slice A n c]/\b<=g/\Zc w s A n c z/\n<=k
def kOne (b:Nat)(z:Int)(k:Nat):FK:=.f (IsOne b z k) (fun v w w' ⟨g,s,A,n,c,e,h1,h2,h3,h4⟩ hb=>⟨g,s,A,n,c,e,h1.below hb,h2,h3.below hb,h4⟩)
theorem k_h {w:World}{s:Bool}{A:Option Addr}{n c:Nat}:(Instr.buildSlice 25 1 #[(0,.agg #[.bool s,.slice A n c])]).run Tryz.prog w= .ok (.slice (some ⟨w.heap.size,0,none⟩) 1 1) (w.alloc (.cells #[.bool s,.slice A n c] 31)):=by kernel_rfl
def bsX (o:Op):Operand:=match o with| .buildSlice _ _ xs=>(match xs.toList with|(_,x)::_=>x| []=>.func 0)|_=>.func 0
def okBs (ops:Array Oper)(m i:Nat)(s:Src):Bool:=okH ops m i&&(match(opAt ops i).op with| .buildSlice T 1 xs=>(match xs.toList with| [(0,x)]=>T==25&&s.ok ops m i x|_=>false)|_=>false)
theorem Run.bs {ops:Array Oper}{Q:Exit->Act->World->Prop}{m i:Nat}{a0:Act}{w0:World}{l:List FK}{b:Bool}{id:Nat}(s:Src){z:Int}{k b0:Nat}(hb0:b0<=w0.heap.size)(rest:R ops Q m a0 w0 b id (kOne b0 z k::l) (i+1))
  (hx:s.K l i a0 (bsX (opAt ops i).op)=kC z k:=by rfl) (hc:okBs ops m i s=true:=by kernel_rfl) (hg:Gd l i (opAt ops i):=by first|exact trivial|exact rfl):R ops Q m a0 w0 b id l i:=by
 unfold okBs at hc;rw[Bool.and_eq_true]at hc;obtain⟨h1,h2⟩:=hc;refine Run.mem (x:=kOne b0 z k) (fun a w h=>?_) rest (FK.fne _) h1 hg;split at h2
 ·rename_i T xs e;split at h2
  ·rename_i x ex;obtain⟨ys⟩:=xs;simp only at ex;subst ex;have e0:bsX (opAt ops i).op=x:=by rw[e];rfl
   rw[e0]at hx;rw[Bool.and_eq_true,beq_iff_eq]at h2;obtain⟨rfl,h2⟩:=h2
   have:=h.src h2;rw[hx]at this;obtain⟨s',A,n,c,ev,hz,hk⟩:=this;have B:=zba w (.cells #[.bool s',.slice A n c] 31);refine⟨_,_, ?_,⟨w.heap.size,s',A,n,c,rfl,Bx.new w _ _,Nat.le_trans hb0 h.below.size,hz.below B,hk⟩,B⟩;unfold execOp;rw[e];simp only[List.map_toArray,List.map_cons,List.map_nil,ev];simp[k_h]
  ·cases h2
 ·cases h2
def IsZw (b n k:Nat)(zs:List Int):FVal:=fun v w=>∃g,v= .slice (some ⟨g,0,none⟩) n n/\ZB w g k zs/\b<=g
def kZw (b n k:Nat)(zs:List Int):FK:=.f (IsZw b n k zs) (fun v w w' ⟨g,e,h1,h2⟩ hb=>⟨g,e,h1.below hb,h2⟩)
theorem q_a {r c k:Nat}{f:FuncId}{first captured:Array Value}{F:Nat->Nat->Int}{w:World}(hr:r<=64)(hc:c<=64)(hgo:goes f=true)
  (H:∀i j W,i<r->j<c->Below w.heap.size w W->Calls Tryz.prog f (first++ #[.int .i64 (i:Int),.int .i64 (j:Int)]++captured) W (RetK (kC (F i j) k) W)):
  Calls Tryz.prog 122 #[.int .i64 (r:Int),.int .i64 (c:Int),.func (.func f) first captured] w (RetK (kZw w.heap.size (r*c) k (mk r c F)) w):=by
 have HF:=Lib.hid H;obtain⟨N,hN⟩:∃N,r*c=N:=⟨_,rfl⟩;have hN2:N<=4096:=by rw[<-hN];exact Nat.mul_le_mul hr hc
 have e12:(r:Int)*(c:Int)=(N:Int):=by rw[<-hN];simp
 have HN:=Lib.hid hN;rw[HN.out];clear H hN;go_enter Tryz.func122,Tryz.ntmps122
 go_wp2_with (at_make;refine c_0 _ rfl _ _ 25 rfl Tryz.underlying25 info_zint N rfl rfl (by omega) ?_)
 intro w2 hb B2 s2;have HB:Hid (Below w.heap.size w w2/\ZB w2 w.heap.size k (fil (mk r c F) 0)):=
  Lib.hid ⟨B2,by rw[i_q,a_1,HN.out];exact hb.mono (Nat.zero_le _)⟩
 clear hb B2 s2 e12
 go_wp2_with fail
 go_loopw [7,15] (fun s7 s15 wr=>∃i:Nat,s7= .slice (some ⟨w.heap.size,0,none⟩) (i*c) N/\s15= .int .i64 (i:Int)/\i<=r/\Hid (Below w.heap.size w wr/\ZB wr w.heap.size k (fil (mk r c F) (i*c)))) (fun _ s15 _=>r - (intOf s15).toNat)
 case atStart=>exact⟨0,by rw[Nat.zero_mul],rfl,Nat.zero_le _,by rw[Nat.zero_mul];exact HB⟩
 case round=>
  clear HB;obtain⟨i,rfl,rfl,hi,HB⟩:=hrel;by_cases hlt:i<r
  ·have u1:(i:Int)<(r:Int):=by omega
   go_wp2_with fail
   go_loopw [7,19] (fun s7 s19 wq=>∃j:Nat,s7= .slice (some ⟨w.heap.size,0,none⟩) (i*c+j) N/\s19= .int .i64 (j:Int)/\j<=c/\Hid (Below w.heap.size w wq/\ZB wq w.heap.size k (fil (mk r c F) (i*c+j)))) (fun _ s19 _=>c - (intOf s19).toNat)
   case atStart=>exact⟨0,rfl,rfl,Nat.zero_le _,HB⟩
   case round=>
    clear HB;obtain⟨j,rfl,rfl,hj,HB⟩:=hrel;by_cases hjl:j<c
    ·have u2:(j:Int)<(c:Int):=by omega
     go_upto_region 8 with fail
     obtain⟨B0,hb⟩:=HB.out;refine Run.start 6 ?_;refine .mv .o ?_;refine .mv .o ?_;refine .mv .o ?_;refine .mv .o ?_;refine .cv2 (.i 1) (.i 2) (.i 3) (x:=kC (F i j) k) rfl hgo (by rintro u v w4 hB rfl rfl;exact HF.out i j w4 hlt hjl (zup B0 hB)) ?_;refine .bs (.i 4) (Nat.le_refl _) ?_;refine .donep [some 22,some 23,some 24,some 25,some 26,some 27] ?_;intro w4 B4;rintro v0 -;rintro v ⟨g,s_,A_,n_,c_,rfl,bg,hge,hz,hk⟩;refine sh [_,_] ?_;simp only[Act.put,lS,lZ,lC];have hm:=g_x hlt hjl;have hL:(fil (mk r c F) (i*c+j)).length=N:=by rw[c_g (by rw[a_1];omega),a_1,HN.out]
     have hlt0:=hb.lt
     go_wp2_with (at_builtin;refine e_y rfl _ _ 25 rfl Tryz.underlying25 info_zint rfl rfl bg hz hk (hb.below B4) (by rw[hL,<-HN.out];exact hm) hL.symm ?_)
     intro w5 hb5 hg5;have HN2:Hid (Below w.heap.size w w5/\ZB w5 w.heap.size k (fil (mk r c F) (i*c+(j+1)))):=by
      refine Lib.hid ⟨g_s (zup B0 B4) hg5 (Nat.le_refl _), ?_⟩;rw[<-g_m (F:=F) hlt hjl,q_b (by rw[a_1];exact hm)]at hb5;exact hb5
     clear hb5 hg5 hb bg hz hk hm hL hlt0 B0 B4
     go_wp2_with fail
     go_roundw
     case rel=>exact⟨j+1,rfl,by go_num,by omega,HN2⟩
     case measure=>first|(simp[intOf];done)|(simp[intOf];omega)
    ·obtain rfl:j=c:=by omega
     have u2:¬(j:Int)<(j:Int):=by omega
     rw[show i*j+j=(i+1)*j by rw[Nat.succ_mul]]at HB
     go_wp2_with fail
     go_roundw
     case rel=>exact⟨i+1,by rw[Nat.succ_mul],by go_num,by omega,HB⟩
     case measure=>first|(simp[intOf];done)|(simp[intOf];omega)
  ·obtain rfl:i=r:=by omega
   have u1:¬(i:Int)<(i:Int):=by omega
   obtain⟨B0,hb⟩:=HB.out;rw[HN.out,show fil (mk i c F) N=mk i c F by have:=l_a (mk i c F);rwa [a_1,HN.out]at this]at hb;have P:Hid (RetK (kZw w.heap.size N k (mk i c F)) w (.returned (.slice (some ⟨w.heap.size,0,none⟩) N N)) _):=Lib.hid ⟨_,rfl,⟨_,rfl,hb,Nat.le_refl _⟩,B0⟩;clear hb B0 HB;rw[HN.out]
   go_wp2_with fail
   exact bodyPost_ret (v:=.slice (some ⟨w.heap.size,0,none⟩) N N) (by simp[results,Tryz.results122,go_sem]) rfl P.out
theorem k_i {w:World}{r c:Int}{A:Option Addr}{n d:Nat}:(Instr.build 27 #[(0,.int .i64 r),(1,.int .i64 c),(2,.slice A n d)]).run Tryz.prog w= .ok (.agg #[.int .i64 r,.int .i64 c,.slice A n d]) w:=by kernel_rfl
def IsMB (b r c k:Nat)(F:Nat->Nat->Int):FVal:=fun v w=>∃g N,v= .agg #[.int .i64 (r:Int),.int .i64 (c:Int),.slice (some ⟨g,0,none⟩) N N]/\N=r*c/\ZB w g k (mk r c F)/\b<=g/\r<=64/\c<=64
def kMB (b r c k:Nat)(F:Nat->Nat->Int):FK:=.f (IsMB b r c k F) (fun v w w' ⟨g,N,e,e2,h1,h2⟩ hb=>⟨g,N,e,e2,h1.below hb,h2⟩)
theorem IsMB.mt {b r c k g N:Nat}{F:Nat->Nat->Int}{w:World}(e:N=r*c)(hb:ZB w g k (mk r c F))(hr:r<=64)(hc:c<=64):Mt true w r c (some ⟨g,0,none⟩) N N k F:=⟨by
 have hN2:r*c<=4096:=Nat.mul_le_mul hr hc
 have:=hb.zl0 true (n:=N) (c:=N) (by rw[a_1];omega) (Nat.le_refl _) (by omega);rwa [List.take_of_length_le (by rw[a_1];omega)]at this,hr,hc⟩
theorem IsMB.m {b r c k:Nat}{F:Nat->Nat->Int}{v:Value}{w:World}(h:IsMB b r c k F v w):IsM true r c k F v w:=by
 obtain⟨g,N,e,e2,h1,h2,h3,h4⟩:=h;exact⟨_,_,_,e,IsMB.mt (b:=b) e2 h1 h3 h4⟩
theorem IsMB.lo {b b' r c k:Nat}{F:Nat->Nat->Int}(hb:b'<=b)(v:Value)(w:World)(h:IsMB b r c k F v w):IsMB b' r c k F v w:=by
 obtain⟨g,N,e,e2,h1,h2,h3⟩:=h;exact⟨g,N,e,e2,h1,Nat.le_trans hb h2,h3⟩
theorem n_3 {r c k:Nat}{f:FuncId}{first captured:Array Value}{F:Nat->Nat->Int}{w:World}(hr:r<=64)(hc:c<=64)(hgo:goes f=true)
  (H:∀i j W,i<r->j<c->Below w.heap.size w W->Calls Tryz.prog f (first++ #[.int .i64 (i:Int),.int .i64 (j:Int)]++captured) W (RetK (kC (F i j) k) W)):
  Calls Tryz.prog 64 #[.int .i64 (r:Int),.int .i64 (c:Int),.func (.func f) first captured] w (RetK (kMB w.heap.size r c k F) w):=by
 obtain⟨w1,hw1,b6,z1,s1⟩:=boxes1 w 27 [.int .i64 0,.int .i64 0,.slice none 0 0];have HW:=Lib.hid hw1;have HF:=Lib.hid H;obtain⟨N,hN⟩:∃N,r*c=N:=⟨_,rfl⟩;have hN2:N<=4096:=by rw[<-hN];exact Nat.mul_le_mul hr hc
 have HN:=Lib.hid hN;clear hw1 H hN;go_enter Tryz.func64,Tryz.ntmps64
 go_upto_region 1 with fail
 rw[HW.out];have hG:=q_a (w:=w1) hr hc hgo fun i j W hi hj hW=>HF.out i j W hi hj (zup z1 hW);rw[HN.out]at hG
 go_wp2_with fail
 refine hG.mono ?_;rintro e w2 ⟨v,rfl,⟨g,rfl,hb,hg⟩,B2⟩;clear hG;replace b6:=b6.below B2;have P:Hid (RetK (kMB w.heap.size r c k F) w (.returned (.agg #[.int .i64 (r:Int),.int .i64 (c:Int),.slice (some ⟨g,0,none⟩) N N])) (mput w2 w.heap.size (r:Int) (c:Int) (some ⟨g,0,none⟩) N N)):=
  Lib.hid ⟨_,rfl,⟨g,N,rfl,HN.out.symm,hb.gro (fun e=>by have:=s1;omega) (b6.now (by simp)) (d_1 _ _ _ _ _ _ _),by omega,hr,hc⟩,a_j (zup z1 B2) (Nat.le_refl _)⟩
 have i0:=b6.cell 0;have i1:=b6.cell 1;have i2:=b6.cell 2;have f0:=b6.free 0;have f1:=b6.free 1;have f2:=b6.free 2;simp only[List.getElem?_cons_succ,List.getElem?_cons_zero]at i0 i1 i2;clear b6 hb B2 z1 s1 HW;unfold mput at P
 go_wp2_with fail
 exact bodyPost_ret (v:=.agg #[.int .i64 (r:Int),.int .i64 (c:Int),.slice (some ⟨g,0,none⟩) N N]) (by simp[results,Tryz.results64,go_sem,i0,i1,i2]) rfl P.out
theorem r_x {b r c k:Nat}{f:FuncId}{first captured:Array Value}{F:Nat->Nat->Int}{w:World}(hb:b<=w.heap.size)(hr:r<=64)(hc:c<=64)(hgo:goes f=true)
  (H:∀i j W,i<r->j<c->Below w.heap.size w W->Calls Tryz.prog f (first++ #[.int .i64 (i:Int),.int .i64 (j:Int)]++captured) W (RetK (kC (F i j) k) W)):
  Calls Tryz.prog 64 #[.int .i64 (r:Int),.int .i64 (c:Int),.func (.func f) first captured] w (RetK (kMB b r c k F) w):=
 (n_3 hr hc hgo H).mono fun e w' h=>h.mono (IsMB.lo hb)
theorem k_9 {r c k:Nat}{f:FuncId}{first captured:Array Value}{F:Nat->Nat->Int}{w:World}(hr:r<=64)(hc:c<=64)(hgo:goes f=true)
  (H:∀i j W,i<r->j<c->Below w.heap.size w W->Calls Tryz.prog f (first++ #[.int .i64 (i:Int),.int .i64 (j:Int)]++captured) W (RetK (kC (F i j) k) W)):
  Calls Tryz.prog 64 #[.int .i64 (r:Int),.int .i64 (c:Int),.func (.func f) first captured] w (RetK (kM true r c k F) w):=
 (n_3 hr hc hgo H).mono fun e w' h=>h.mono fun v w h=>h.m
end
end Go.Proofs.YtfhbdlegkdbmfaaGreat
