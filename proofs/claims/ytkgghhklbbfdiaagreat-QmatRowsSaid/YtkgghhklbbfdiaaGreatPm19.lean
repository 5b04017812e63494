/- Pm19 -/
import Derived.Test.YtkgghhklbbfdiaaGreatPm18
set_option linter.unusedVariables false
set_option linter.unusedSimpArgs false
set_option linter.unusedSectionVars false
set_option maxRecDepth 100000
set_option maxHeartbeats 8000000
namespace Go.Proofs.YtkgghhklbbfdiaaGreat
section
open Go.RowKit
def flq (l:List Rat)(m:Nat):List Rat:=l.take m++List.replicate (l.length - m) 0
theorem n_a (l:List Rat):flq l 0=List.replicate l.length 0:=by simp[flq]
theorem q_d (l:List Rat):flq l l.length=l:=by simp[flq]
theorem f_h {l:List Rat}{m:Nat}(h:m≤l.length):(flq l m).length=l.length:=by simp[flq];omega
theorem l_2 {l:List Rat}{m:Nat}(h:m<l.length):(flq l m).set m (rth l m)=flq l (m+1):=by
 apply List.ext_getElem
 ·rw[List.length_set,f_h (by omega),f_h (by omega)]
 ·intro j h1 h2;rw[f_h (by omega)]at h2;rw[List.getElem_set];by_cases e:m=j
  ·subst e;rw[if_pos rfl];simp only[flq];rw[List.getElem_append_left (by simp;omega)];simp[rth,List.getD,h2]
  ·rw[if_neg e];simp only[flq];rcases Nat.lt_or_ge j m with h3|h3
   ·rw[List.getElem_append_left (by simp;omega),List.getElem_append_left (by simp;omega)];simp
   ·rw[List.getElem_append_right (by simp;omega),List.getElem_append_right (by simp;omega)];simp
theorem QB.cf {w:World}{g k:Nat}{f f':Nat→Bool}{xs:List Rat}(h:QB w g k f xs)(e:∀j,j<xs.length→f j=f' j):QB w g k f' xs:=by
 obtain⟨cs,h1,h2,h3⟩:=h;refine⟨cs,h1,h2,fun j hj=>?_⟩;rw[←e j hj];exact h3 j hj
theorem h_j {P:Program}(w:World){ops:Array Oper}{rest:List Oper}{o:Oper}{a:Act}{Q:Exit→Act→World→Prop}
  (hg:o.guard=none) (l c:Operand) (t:TypeId) (hop:o.op=Op.makeSlice t l c)
  (ht:P.underlying t=some (.slice 46)) (hinfo:(P.info? 46).map (fun i=>(i.zero,i.size,i.bytes))=some (some (.agg #[.bool false,.slice none 0 0,.bool false,.slice none 0 0]),4,64))
  (n:Nat) (hl:a.eval l= .int .i64 0) (hc:a.eval c= .int .i64 (n:Int)) (hbytes:n≤2199023255552)
  (hK:∀w',QB w' w.heap.size 0 (fun _=>false) (List.replicate n 0)→Below w.heap.size w w'→w'.heap.size=w.heap.size+1→wpList P ops Q rest (a.put o.dst (.slice (some ⟨w.heap.size,0,none⟩) 0 n)) w'):
  wpList P ops Q (o::rest) a w:=by
 obtain⟨i,hi,hz0,hz1,hz2⟩:=info_parts hinfo;have hrun:=run_make (P:=P) w t 46 i (.agg #[.bool false,.slice none 0 0,.bool false,.slice none 0 0]) ht hi hz0 .i64 .i64 0 (n:Int) (by omega) (by omega) (by rw[hz2];omega) (by omega);refine wpList_plain hg fun K hK'=>?_;unfold Oper.wp;simp[execOp,hop,hl,hc,hrun,Result.andThen];refine hK' _ _ (hK _ ?_ ((Below.refl _ _).alloc (Nat.le_refl _) _) (by simp));rw[hz1];exact QB.made w n
theorem f_0 {P:Program}{w:World}{ops:Array Oper}{rest:List Oper}{o:Oper}{a:Act}{Q:Exit→Act→World→Prop}(hgd:o.guard=none)(s x:Operand)(t:TypeId)
  (ho:o.op= .call { callee:=.builtin .append,args:=#[s,x],argTypes:=#[t,t] })
  (ht:P.underlying t=some (.slice 46)) (hinfo:(P.info? 46).map (fun i=>(i.zero,i.size,i.bytes))=some (some (.agg #[.bool false,.slice none 0 0,.bool false,.slice none 0 0]),4,64))
  {g k m cap h n c n' c':Nat} {sb tb:Bool} {A B:Option Addr} {z:Rat} {zs:List Rat} {f:Nat→Bool} {q:Bool} (hs:a.eval s= .slice (some ⟨g,0,none⟩) m cap) (hx:a.eval x= .slice (some ⟨h,0,none⟩) 1 1)
  (hone:Bx w h 46 [.bool sb,.slice A n c,.bool tb,.slice B n' c']) (hz:Qe q w sb A n c tb B n' c' z) (hn:n≤k) (hn2:n'≤k) (hb:QB w g k f zs) (hm:m<zs.length) (hcap:cap=zs.length)
  (K:∀w',QB w' g k (fun i=>if i=m then q else f i) (zs.set m z)→w.grownBy w' (some g)→wpList P ops Q rest (a.put o.dst (.slice (some ⟨g,0,none⟩) (m+1) cap)) w'):
  wpList P ops Q (o::rest) a w:=by
 obtain⟨i,hi,hz0,hz1,hz2⟩:=info_parts hinfo;have hno:=hb.now;have hput:=hb.put (q:=q) (j:=m) hm hz hn hn2;obtain⟨cs,h1,h2,h3⟩:=hb;have c0:=hone.cell 0;have c1:=hone.cell 1;have c2:=hone.cell 2;have c3:=hone.cell 3;simp at c0 c1 c2 c3;have hrun:=run_append_room (P:=P) w t o.type 46 i ht hi g m cap cs h1 ⟨h,0,none⟩ 1 1 [.bool sb,.slice A n c,.bool tb,.slice B n' c'] (by rw[hz1];rfl) (fun j u hu=>by
   rw[a_8];match j,hu with
   |0,hu=>simp at hu;subst hu;exact c0
   |1,hu=>simp at hu;subst hu;exact c1
   |2,hu=>simp at hu;subst hu;exact c2
   |3,hu=>simp at hu;subst hu;exact c3) (fun u hu=>by
   simp at hu;rcases hu with rfl|rfl|rfl|rfl<;>rfl) (by omega) (by rw[hz1,h2];simp;omega)
 rw[hz1]at hrun;have eC:(cs.toList.take (m*4)++[Value.bool sb,.slice A n c,.bool tb,.slice B n' c']++cs.toList.drop (m*4+4)).toArray=(((cs.setIfInBounds (m*4) (.bool sb)).setIfInBounds (m*4+1) (.slice A n c)).setIfInBounds (m*4+2) (.bool tb)).setIfInBounds (m*4+3) (.slice B n' c'):=by
  apply Array.ext';simp only[Array.toList_setIfInBounds];apply List.ext_getElem?;intro j;have hl:m*4+3<cs.toList.length:=by rw[Array.length_toList,h2];omega
  rw[List.getElem?_set,List.getElem?_set,List.getElem?_set,List.getElem?_set];rcases(by omega:j<m*4∨j=m*4∨j=m*4+1∨j=m*4+2∨j=m*4+3∨m*4+3<j)with e|e|e|e|e|e
  ·rw[if_neg (by omega),if_neg (by omega),if_neg (by omega),if_neg (by omega),List.append_assoc,List.getElem?_append_left (by simp;omega),List.getElem?_take_of_lt e]
  ·subst e;rw[if_neg (by omega),if_neg (by omega),if_neg (by omega),if_pos rfl,if_pos (by omega),List.append_assoc,List.getElem?_append_right (by simp;omega)];rw[List.length_take,Nat.min_eq_left (by omega),Nat.sub_self];rfl
  ·subst e;rw[if_neg (by omega),if_neg (by omega),if_pos rfl,if_pos (by simp;omega),List.append_assoc,List.getElem?_append_right (by simp;omega)];rw[List.length_take,Nat.min_eq_left (by omega),show m*4+1 - m*4=1 by omega];rfl
  ·subst e;rw[if_neg (by omega),if_pos rfl,if_pos (by simp;omega),List.append_assoc,List.getElem?_append_right (by simp;omega)];rw[List.length_take,Nat.min_eq_left (by omega),show m*4+2 - m*4=2 by omega];rfl
  ·subst e;rw[if_pos rfl,if_pos (by simp;omega),List.append_assoc,List.getElem?_append_right (by simp;omega)];rw[List.length_take,Nat.min_eq_left (by omega),show m*4+3 - m*4=3 by omega];rfl
  ·rw[if_neg (by omega),if_neg (by omega),if_neg (by omega),if_neg (by omega),List.getElem?_append_right (by simp;omega),List.getElem?_drop];congr 1
   simp;omega
 rw[show([Value.bool sb,Value.slice A n c,.bool tb,.slice B n' c']:List Value).length=4 from rfl,eC]at hrun;obtain⟨w',hw'⟩:∃w',w'=w.setRow g ((((cs.setIfInBounds (m*4) (.bool sb)).setIfInBounds (m*4+1) (.slice A n c)).setIfInBounds (m*4+2) (.bool tb)).setIfInBounds (m*4+3) (.slice B n' c')):=⟨_,rfl⟩;have hg:w'.heap[g]? =(qputo w g (m*4) sb A n c tb B n' c').heap[g]? :=by
  rw[hw',setRow_heap w g cs _ _ _ h1];unfold qputo;rw[heap_setCell_same _ g _ _ _ _ (heap_setCell_same _ g _ _ _ _ (heap_setCell_same _ g _ _ _ _ (heap_setCell_same w g _ _ _ _ h1)))]
 have hgr:w.grownBy w' (some g):=by
  subst hw';exact⟨rfl,rfl,rfl,by simp[World.setRow],fun j _ hj=>setRow_other w g j _ (fun e=>hj (by rw[e]))⟩
 have hgz:=d_v w g (m*4) sb A n c tb B n' c';have hsz:(qputo w g (m*4) sb A n c tb B n' c').heap.size=w.heap.size:=by unfold qputo;simp
 have hbb:Below (qputo w g (m*4) sb A n c tb B n' c').heap.size (qputo w g (m*4) sb A n c tb B n' c') w':=by
  refine⟨hgr.os.trans hgz.os.symm,hgr.tape.trans hgz.tape.symm,hgr.output.trans hgz.output.symm,by rw[hsz];exact hgr.size,fun j hj=>?_⟩;rw[hsz]at hj;by_cases e:j=g
  ·subst e;exact hg
  ·exact(hgr.block j hj (fun h=>e (Option.some.inj h))).trans (hgz.block j hj (fun h=>e (Option.some.inj h))).symm
 rw[←hw']at hrun;refine wpList_plain hgd fun K' hK'=>?_;unfold Oper.wp execOp;simp only[ho,resolve,invoke,builtin,Sem.run_bind,Sem.run_pure,Result.andThen_ok,List.map_toArray,List.map_cons,List.map_nil,hs,hx,hrun];exact hK' _ _ (K _ (hput.below hbb) hgr)
def IsQe (q:Bool)(x:Rat)(k:Nat):FVal:=fun v w=>∃s A n c t B m d,v= .agg #[.bool s,.slice A n c,.bool t,.slice B m d]∧Qe q w s A n c t B m d x∧n≤k∧m≤k
def kQe (q:Bool)(x:Rat)(k:Nat):FK:=.f (IsQe q x k) (fun v w w' ⟨s,A,n,c,t,B,m,d,e,h,h2⟩ hb=>⟨s,A,n,c,t,B,m,d,e,h.below hb,h2⟩)
theorem t_y {w w':World}{x:Rat}{k:Nat}{e:Ending}(h:RetK (kQ x k) w e w'):RetK (kQe true x k) w e w':=h.mono fun v w2 ⟨s,A,n,c,t,B,m,d,e,h1,h2⟩=>⟨s,A,n,c,t,B,m,d,e,.of h1,h2⟩
theorem u_9 {w w':World}{x:Rat}{k:Nat}{e:Ending}(h:RetK (kQv x k) w e w'):RetK (kQe false x k) w e w':=h.mono fun v w2 ⟨s,A,n,c,t,B,m,d,e,h1,h2⟩=>⟨s,A,n,c,t,B,m,d,e,⟨h1,fun e=>nomatch e⟩,h2⟩
def IsOneQ (q:Bool)(b:Nat)(z:Rat)(k:Nat):FVal:=fun v w=>∃g s A n c t B m d,v= .slice (some ⟨g,0,none⟩) 1 1∧Bx w g 46 [.bool s,.slice A n c,.bool t,.slice B m d]∧b≤g∧Qe q w s A n c t B m d z∧n≤k∧m≤k
def kOneQ (q:Bool)(b:Nat)(z:Rat)(k:Nat):FK:=.f (IsOneQ q b z k) (fun v w w' ⟨g,s,A,n,c,t,B,m,d,e,h1,h2,h3,h4⟩ hb=>⟨g,s,A,n,c,t,B,m,d,e,h1.below hb,h2,h3.below hb,h4⟩)
theorem o_7 {w:World}{s t:Bool}{A B:Option Addr}{n c m d:Nat}:(Instr.buildSlice 22 1 #[(0,.agg #[.bool s,.slice A n c,.bool t,.slice B m d])]).run Tryz.prog w= .ok (.slice (some ⟨w.heap.size,0,none⟩) 1 1) (w.alloc (.cells #[.bool s,.slice A n c,.bool t,.slice B m d] 46)):=by kernel_rfl
def okBsQ (ops:Array Oper)(m i:Nat)(s:Src):Bool:=okH ops m i&&(match(opAt ops i).op with| .buildSlice T 1 xs=>(match xs.toList with| [(0,x)]=>T==22&&s.ok ops m i x|_=>false)|_=>false)
theorem Run.bsq {ops:Array Oper}{Q:Exit→Act→World→Prop}{m i:Nat}{a0:Act}{w0:World}{l:List FK}{b:Bool}{id:Nat}(s:Src){q:Bool}{z:Rat}{k b0:Nat}(hb0:b0≤w0.heap.size)(rest:R ops Q m a0 w0 b id (kOneQ q b0 z k::l) (i+1))
  (hx:s.K l i a0 (bsX (opAt ops i).op)=kQe q z k:=by rfl) (hc:okBsQ ops m i s=true:=by kernel_rfl) (hg:Gd l i (opAt ops i):=by first|exact trivial|exact rfl):R ops Q m a0 w0 b id l i:=by
 unfold okBsQ at hc;rw[Bool.and_eq_true]at hc;obtain⟨h1,h2⟩:=hc;refine Run.mem (x:=kOneQ q b0 z k) (fun a w h=>?_) rest (FK.fne _) h1 hg;split at h2
 ·rename_i T xs e;split at h2
  ·rename_i x ex;obtain⟨ys⟩:=xs;simp only at ex;subst ex;have e0:bsX (opAt ops i).op=x:=by rw[e];rfl
   rw[e0]at hx;rw[Bool.and_eq_true,beq_iff_eq]at h2;obtain⟨rfl,h2⟩:=h2
   have:=h.src h2;rw[hx]at this;obtain⟨s',A,n,c,t',B',m',d',ev,hz,hk⟩:=this;have BB:=zba w (.cells #[.bool s',.slice A n c,.bool t',.slice B' m' d'] 46);refine⟨_,_, ?_,⟨w.heap.size,s',A,n,c,t',B',m',d',rfl,Bx.new w _ _,Nat.le_trans hb0 h.below.size,hz.below BB,hk⟩,BB⟩;unfold execOp;rw[e];simp only[List.map_toArray,List.map_cons,List.map_nil,ev];simp[o_7]
  ·cases h2
 ·cases h2
def IsQw (q:Bool)(b n k:Nat)(zs:List Rat):FVal:=fun v w=>∃g,v= .slice (some ⟨g,0,none⟩) n n∧QB w g k (fun _=>q) zs∧b≤g
def kQw (q:Bool)(b n k:Nat)(zs:List Rat):FK:=.f (IsQw q b n k zs) (fun v w w' ⟨g,e,h1,h2⟩ hb=>⟨g,e,h1.below hb,h2⟩)
theorem m_5 {q:Bool}{r c k:Nat}{f:FuncId}{first captured:Array Value}{F:Nat→Nat→Rat}{w:World}(hr:r≤64)(hc:c≤64)(hgo:goes f=true)
  (H:∀i j W,i<r→j<c→Below w.heap.size w W→Calls Tryz.prog f (first++ #[.int .i64 (i:Int),.int .i64 (j:Int)]++captured) W (RetK (kQe q (F i j) k) W)):
  Calls Tryz.prog 124 #[.int .i64 (r:Int),.int .i64 (c:Int),.func (.func f) first captured] w (RetK (kQw q w.heap.size (r*c) k (qmk r c F)) w):=by
 have HF:=Lib.hid H;obtain⟨N,hN⟩:∃N,r*c=N:=⟨_,rfl⟩;have hN2:N≤4096:=by rw[←hN];exact Nat.mul_le_mul hr hc
 have e12:(r:Int)*(c:Int)=(N:Int):=by rw[←hN];simp
 have HN:=Lib.hid hN;rw[HN.out];clear H hN;go_enter Tryz.func124,Tryz.ntmps124
 go_wp2_with (at_make;refine h_j _ rfl _ _ 22 rfl Tryz.underlying22 info_rat N rfl rfl (by omega) ?_)
 intro w2 hb B2 s2;have HB:Hid (Below w.heap.size w w2∧QB w2 w.heap.size k (fun i=>decide (i<0)&&q) (flq (qmk r c F) 0)):=
  Lib.hid ⟨B2,by rw[n_a,a_4,HN.out];exact(hb.mono (Nat.zero_le _)).cf fun j _=>by simp⟩
 clear hb B2 s2 e12
 go_wp2_with fail
 go_loopw [7,15] (fun s7 s15 wr=>∃i:Nat,s7= .slice (some ⟨w.heap.size,0,none⟩) (i*c) N∧s15= .int .i64 (i:Int)∧i≤r∧Hid (Below w.heap.size w wr∧QB wr w.heap.size k (fun x=>decide (x<i*c)&&q) (flq (qmk r c F) (i*c)))) (fun _ s15 _=>r - (intOf s15).toNat)
 case atStart=>exact⟨0,by rw[Nat.zero_mul],rfl,Nat.zero_le _,by rw[Nat.zero_mul];exact HB⟩
 case round=>
  clear HB;obtain⟨i,rfl,rfl,hi,HB⟩:=hrel;by_cases hlt:i<r
  ·have u1:(i:Int)<(r:Int):=by omega
   go_wp2_with fail
   go_loopw [7,19] (fun s7 s19 wq=>∃j:Nat,s7= .slice (some ⟨w.heap.size,0,none⟩) (i*c+j) N∧s19= .int .i64 (j:Int)∧j≤c∧Hid (Below w.heap.size w wq∧QB wq w.heap.size k (fun x=>decide (x<i*c+j)&&q) (flq (qmk r c F) (i*c+j)))) (fun _ s19 _=>c - (intOf s19).toNat)
   case atStart=>exact⟨0,rfl,rfl,Nat.zero_le _,HB⟩
   case round=>
    clear HB;obtain⟨j,rfl,rfl,hj,HB⟩:=hrel;by_cases hjl:j<c
    ·have u2:(j:Int)<(c:Int):=by omega
     go_upto_region 8 with fail
     obtain⟨B0,hb⟩:=HB.out;refine Run.start 6 ?_;refine .mv .o ?_;refine .mv .o ?_;refine .mv .o ?_;refine .mv .o ?_;refine .cv2 (.i 1) (.i 2) (.i 3) (x:=kQe q (F i j) k) rfl hgo (by rintro u v w4 hB rfl rfl;exact HF.out i j w4 hlt hjl (zup B0 hB)) ?_;refine .bsq (.i 4) (Nat.le_refl _) ?_;refine .donep [some 22,some 23,some 24,some 25,some 26,some 27] ?_;intro w4 B4;rintro v0 -;rintro v ⟨g,s_,A_,n_,c_,t_,B_,m_,d_,rfl,bg,hge,hz,hk,hk2⟩;change Shut (wpList _ _ _ [_,_] _ _);refine⟨?_⟩;simp only[Act.put,lS,lZ,lC];have hm:=g_0 hlt hjl;have hL:(flq (qmk r c F) (i*c+j)).length=N:=by rw[f_h (by rw[a_4];omega),a_4,HN.out]
     have hlt0:=hb.lt
     go_wp2_with (at_builtin;refine f_0 rfl _ _ 22 rfl Tryz.underlying22 info_rat rfl rfl bg hz hk hk2 (hb.below B4) (by rw[hL,←HN.out];exact hm) hL.symm ?_)
     intro w5 hb5 hg5;have HN2:Hid (Below w.heap.size w w5∧QB w5 w.heap.size k (fun x=>decide (x<i*c+(j+1))&&q) (flq (qmk r c F) (i*c+(j+1)))):=by
      refine Lib.hid ⟨a_c (zup B0 B4) hg5 (Nat.le_refl _), ?_⟩;rw[←h_s (F:=F) hlt hjl,l_2 (by rw[a_4];exact hm)]at hb5;exact hb5.cf fun x _=>by
       cases q<;>(rw[Bool.eq_iff_iff];simp;try omega)
     clear hb5 hg5 hb bg hz hk hm hL hlt0 B0 B4
     go_wp2_with fail
     go_roundw
     case rel=>exact⟨j+1,rfl,by go_num,by omega,HN2⟩
     case measure=>first|(simp[intOf];done)|(simp[intOf];omega)
    ·obtain rfl:j=c:=by omega
     have u2:¬(j:Int)<(j:Int):=by omega
     rw[show i*j+j=(i+1)*j by rw[Nat.succ_mul]]at HB
     go_wp2_with fail
     go_roundw
     case rel=>exact⟨i+1,by rw[Nat.succ_mul],by go_num,by omega,HB⟩
     case measure=>first|(simp[intOf];done)|(simp[intOf];omega)
  ·obtain rfl:i=r:=by omega
   have u1:¬(i:Int)<(i:Int):=by omega
   obtain⟨B0,hb⟩:=HB.out;rw[HN.out,show flq (qmk i c F) N=qmk i c F by have:=q_d (qmk i c F);rwa [a_4,HN.out]at this]at hb;have P:Hid (RetK (kQw q w.heap.size N k (qmk i c F)) w (.returned (.slice (some ⟨w.heap.size,0,none⟩) N N)) _):=Lib.hid ⟨_,rfl,⟨_,rfl,hb.cf fun x hx=>by rw[a_4,HN.out]at hx;simp[hx],Nat.le_refl _⟩,B0⟩;clear hb B0 HB;rw[HN.out]
   go_wp2_with fail
   exact bodyPost_ret (v:=.slice (some ⟨w.heap.size,0,none⟩) N N) (by simp[results,Tryz.results124,go_sem]) rfl P.out
def Mw (b:Nat)(w:World)(r c:Nat)(A:Option Addr)(n d k:Nat)(F:Nat→Nat→Rat):Prop:=∃g,A=some ⟨g,0,none⟩∧n=r*c∧d=n∧QB w g k (fun _=>true) (qmk r c F)∧b≤g∧r≤64∧c≤64
section
variable {b:Nat}{w w' w2:World}{r c n d k g:Nat}{A B:Option Addr}{F G:Nat→Nat→Rat}{m e:Nat}{x y:Int}{T:TypeId}
theorem Mw.mq (h:Mw b w r c A n d k F):Mq true w r c A n d k F:=by
 obtain⟨g,rfl,hn,hd,h2,h3,h4,h5⟩:=h;subst hd
 have:=Nat.mul_le_mul h4 h5;refine⟨?_,h4,h5⟩;have h6:=h2.ql0 true (n:=d) (c:=d) (fun _ _ _=>rfl) (by rw[a_4];omega) (Nat.le_refl _) (by omega);rwa [List.take_of_length_le (by rw[a_4];omega)]at h6
theorem Mw.below (h:Mw b w r c A n d k F)(hb:Below w.heap.size w w'):Mw b w' r c A n d k F:=by
 obtain⟨g,h1,hn,hd,h2,h3⟩:=h;exact⟨g,h1,hn,hd,h2.below hb,h3⟩
theorem Mw.low {b':Nat}(h:Mw b w r c A n d k F)(hk:b'≤b):Mw b' w r c A n d k F:=by
 obtain⟨g,h1,hn,hd,h2,h3,h4⟩:=h;exact⟨g,h1,hn,hd,h2,Nat.le_trans hk h3,h4⟩
theorem Mw.box {h:Nat}{cs:List Value}(hm:Mw b w r c A n d k F)(bx:Bx w h T cs)(hT:T≠46)(hw:∀v,v∈cs→∀m:Int,v≠ .int .u64 m)(hg:w.grownBy w' (some h)):Mw b w' r c A n d k F:=by
 obtain⟨g,h1,hn,hd,h2,h3⟩:=hm;refine⟨g,h1,hn,hd,h2.gro (fun e=>?_) (bx.now hw) hg,h3⟩;obtain⟨cs',h5,-⟩:=h2;rw[e,bx]at h5;cases h5;exact hT rfl
end
def IsMw (b r c k:Nat)(F:Nat→Nat→Rat):FVal:=fun v w=>∃A n d,v= .agg #[.int .i64 (r:Int),.int .i64 (c:Int),.slice A n d]∧Mw b w r c A n d k F
def kMw (b r c k:Nat)(F:Nat→Nat→Rat):FK:=.f (IsMw b r c k F) (fun v w w' ⟨A,n,d,e,h⟩ hb=>⟨A,n,d,e,h.below hb⟩)
theorem retMw {b:Nat}{w w2:World}{r c n d k g m e:Nat}{A B:Option Addr}{F:Nat→Nat→Rat}{x y:Int}(h:Mw b w2 r c A n d k F)(bx:Bx w2 g 24 [.int .i64 x,.int .i64 y,.slice B m e])(hg:w.heap.size≤g)(hB:Below w.heap.size w w2):
  RetK (kMw b r c k F) w (.returned (.agg #[.int .i64 (r:Int),.int .i64 (c:Int),.slice A n d])) (mput w2 g (r:Int) (c:Int) A n d):=⟨_,rfl,⟨A,n,d,rfl,h.box bx (by decide) (by simp) (a_k _ _ _ _ _ _ _)⟩,b_u hB hg⟩
theorem i_u {r c k:Nat}{f:FuncId}{first captured:Array Value}{F:Nat→Nat→Rat}{w:World}(hr:r≤64)(hc:c≤64)(hgo:goes f=true)
  (H:∀i j W,i<r→j<c→Below w.heap.size w W→Calls Tryz.prog f (first++ #[.int .i64 (i:Int),.int .i64 (j:Int)]++captured) W (RetK (kQ (F i j) k) W)):
  Calls Tryz.prog 68 #[.int .i64 (r:Int),.int .i64 (c:Int),.func (.func f) first captured] w (RetK (kMw w.heap.size r c k F) w):=by
 obtain⟨w1,hw1,b6,z1,s1⟩:=boxes1 w 24 [.int .i64 0,.int .i64 0,.slice none 0 0];have HW:=Lib.hid hw1;have HF:=Lib.hid H;obtain⟨N,hN⟩:∃N,r*c=N:=⟨_,rfl⟩;have hN2:N≤4096:=by rw[←hN];exact Nat.mul_le_mul hr hc
 have HN:=Lib.hid hN;clear hw1 H hN;go_enter Tryz.func68,Tryz.ntmps68
 go_upto_region 1 with fail
 rw[HW.out];have hG:=m_5 (q:=true) (w:=w1) hr hc hgo fun i j W hi hj hW=>(HF.out i j W hi hj (zup z1 hW)).mono fun e w' h=>t_y h;rw[HN.out]at hG
 go_wp2_with fail
 refine hG.mono ?_;rintro e w2 ⟨v,rfl,⟨g,rfl,hb,hg⟩,B2⟩;clear hG;have hM:Mw w.heap.size w2 r c (some ⟨g,0,none⟩) N N k F:=⟨g,rfl,HN.out.symm,rfl,hb,by omega,hr,hc⟩;replace b6:=b6.below B2;have P:=Lib.hid (retMw hM b6 (Nat.le_refl _) (zup z1 B2));have i0:=b6.cell 0;have i1:=b6.cell 1;have i2:=b6.cell 2;have f0:=b6.free 0;have f1:=b6.free 1;have f2:=b6.free 2;simp only[List.getElem?_cons_succ,List.getElem?_cons_zero]at i0 i1 i2;clear b6 hb hM B2 z1 s1 HW;unfold mput at P
 go_wp2_with fail
 exact bodyPost_ret (v:=.agg #[.int .i64 (r:Int),.int .i64 (c:Int),.slice (some ⟨g,0,none⟩) N N]) (by simp[results,Tryz.results68,go_sem,i0,i1,i2]) rfl P.out
end
section
open Go.RowKit
theorem u_4 {w:World}{g n d k:Nat}(h:k<n):(Instr.indexAt 27 (.slice (some ⟨g,0,none⟩) n d) (.int .i64 (k:Int))).run Tryz.prog w= .ok (.pointer (some ⟨g,k,none⟩)) w:=by
 simp[go_sem,Tryz.underlying27,show Tryz.prog.cellsOf 3=1 by kernel_rfl];omega
theorem opIxI {g n d k:Nat}{X Y:Operand}(h:k<n)(w:World):RunTwo Tryz.prog (.indexAddr 27 X Y) w (.slice (some ⟨g,0,none⟩) n d) (.int .i64 (k:Int)) (.pointer (some ⟨g,k,none⟩)):=u_4 h
def bsL (o:Op):List Operand:=match o with| .buildSlice _ _ xs=>xs.toList.map (·.2)|_=>[]
section
variable {ops:Array Oper}{Q:Exit→Act→World→Prop}{m i:Nat}{a0:Act}{w0:World}{l:List FK}{b:Bool}{id:Nat}
end
end
section
open Go.RowKit
structure Il (w:World) (A:Option Addr) (n d:Nat) (xs:List Int):Prop where
 len:xs.length=n
 le:n≤d
 cap:d≤9223372036854775807
 at':0<n→∃ad,A=some ad∧ad.block<w.heap.size∧∀j,j<n→w.cell? (ad.add j)=some (.int .i64 (xs.getD j 0))
 bd:∀j,j<n→ -9223372036854775808≤xs.getD j 0∧xs.getD j 0≤9223372036854775807
theorem Il.below {w w':World}{A:Option Addr}{n d:Nat}{xs:List Int}(h:Il w A n d xs)(hb:Below w.heap.size w w'):Il w' A n d xs:=⟨h.len,h.le,h.cap,fun h0=>by
 obtain⟨ad,e,h1,h2⟩:=h.at' h0;exact⟨ad,e,Nat.lt_of_lt_of_le h1 hb.size,fun j hj=>(hb.cell (p:=ad.add j) (by rw[a_b];exact h1)).trans (h2 j hj)⟩,h.bd⟩
theorem u_3 {w:World}{ad:Addr}{n d k:Nat}(h:k<n):(Instr.indexAt 112 (.slice (some ad) n d) (.int .i64 (k:Int))).run Tryz.prog w= .ok (.pointer (some (ad.add k))) w:=by
 simp[go_sem,Tryz.underlying112,show Tryz.prog.cellsOf 2=1 by kernel_rfl];omega
theorem opIxJ {ad:Addr}{n d k:Nat}{X Y:Operand}(h:k<n)(w:World):RunTwo Tryz.prog (.indexAddr 112 X Y) w (.slice (some ad) n d) (.int .i64 (k:Int)) (.pointer (some (ad.add k))):=u_3 h
theorem ldJ {w:World}{p:Addr}{x:Int}(hp:p.block<w.heap.size)(h:w.cell? p=some (.int .i64 x)):∀w',Below w.heap.size w w'→(Instr.loadAt 2 (.pointer (some p))).run Tryz.prog w'= .ok (.int .i64 x) w':=fun w' hb=>by
 have:=(hb.cell hp).trans h;simp[go_sem,a_1,this]
theorem ldIL {w:World}{g:Nat}{T:TypeId}{cs:List Value}(b:Bx w g T cs)(o:Nat){A:Option Addr}{n c:Nat}(hc:cs[o]? =some (.slice A n c):=by rfl):∀w',Below w.heap.size w w'→(Instr.loadAt 112 (.pointer (some ⟨g,o,none⟩))).run Tryz.prog w'= .ok (.slice A n c) w':=fun w' hb=>by
 have h:=(b.below hb).cell o;rw[hc]at h;simp[go_sem,a_1,h]
theorem of1_q {i j n d r c g g':Nat}{A:Option Addr}{xs:List Int}{w:World}(b2:Bx w g 112 [.slice A n d])(b3:Bx w g' 3 [.int .i64 (c:Int)])(hl:Il w A n d xs)(hn:n=r*c)(hr:r≤64)(hc:c≤64)(hi:i<r)(hj:j<c):Calls Tryz.prog 105 #[.int .i64 (i:Int),.int .i64 (j:Int),.pointer (some ⟨g,0,none⟩),.pointer (some ⟨g',0,none⟩)] w (RetK (kC (xs.getD (i*c+j) 0) 1) w):=by
 have h5:i*c≤64*64:=Nat.mul_le_mul (by omega) hc;have hlt:i*c+j<n:=by rw[hn];exact t_k hi hj
 obtain⟨x,hx⟩:∃x,xs.getD (i*c+j) 0=x:=⟨_,rfl⟩;rw[hx];obtain⟨w1,hw1,b6,z1,s1⟩:=boxes1 w 44 [.bool false,.slice none 0 0];have HW:=Lib.hid hw1;have HZ:=Lib.hid z1;replace b2:=b2.below z1;replace b3:=b3.below z1;obtain⟨ad,rfl,hab,hcell⟩:=(hl.below z1).at' (by omega);have hce:=hcell _ hlt;have hbd:=hl.bd _ hlt;rw[hx]at hce hbd;clear hcell hl;clear hw1 z1 s1 hx hn;go_enter Tryz.func105,Tryz.ntmps105
 go_upto_region 1 with fail
 rw[HW.out];refine Run.start 9 ?_;refine .ld .o (ldIL b2 0) ?_;refine .mv .o ?_;refine .ld .o (ldInt b3 0) ?_;refine .two (.i 1) (.i 2) (opMulN i c (by omega)) ?_;refine .mv .o ?_;refine .two (.i 3) (.i 4) (opAddN (i*c) j (by omega)) ?_;refine .two (.i 0) (.i 5) (opIxJ hlt) ?_;refine .ld (.i 6) (ldJ (by rw[a_b];exact hab) hce) ?_;refine .c1 (.i 7) (x:=kC x 1) (by rintro u w2 hB rfl;exact e_h hbd.1 hbd.2 w2) ?_;refine .donep [some 7,some 8,some 9,some 10,some 11,some 12,some 13,some 14,some 15] ?_;intro w2 B2;rintro v ⟨s_,A_,n_,c_,rfl,hz,hk_⟩;change Shut (wpList _ _ _ [_] _ _);refine⟨?_⟩;simp only[Act.put,lS,lZ,lC];have I:=Ib.entry (b6.below B2);have P:=Lib.hid (retC hz I (k:=1) (by omega) (by omega) (zup HZ.out B2));obtain⟨i1,i2,i3,i4,i5⟩:=I;clear hz
 go_wp2_with fail
 exact bodyPost_ret (v:=.agg #[.bool s_,.slice A_ n_ c_]) (by simp[results,Tryz.results105,go_sem,i1,i2]) rfl P.out
theorem v_8 {r c n d:Nat}{A:Option Addr}{xs:List Int}{w:World}(hl:Il w A n d xs)(hn:n=r*c)(hr:r≤64)(hc:c≤64):Calls Tryz.prog 51 #[.int .i64 (r:Int),.int .i64 (c:Int),.slice A n d] w (RetK (kT (kM true r c (1) (fun i j=>xs.getD (i*c+j) 0)) (.k (.int .i64 0))) w):=by
 have h1:sd (r:Int)=true:=by unfold sd;exact decide_eq_true (by omega)
 have h2:sd (c:Int)=true:=by unfold sd;exact decide_eq_true (by omega)
 have hrc:r*c≤64*64:=Nat.mul_le_mul hr hc;obtain⟨w1,hw1,b4,b5,b6,z1,s1⟩:=boxes3 w 3 112 53 [.int .i64 (c:Int)] [.slice A n d] [.int .i64 0,.int .i64 0,.slice none 0 0];have HW:=Lib.hid hw1;have HZ:=Lib.hid z1;have h1_:=Lib.hid h1;have h2_:=Lib.hid h2;have hn_:=Lib.hid hn;clear hw1 z1 h1 h2 hn s1;go_enter Tryz.func51,Tryz.ntmps51
 go_upto_region 1 with fail
 rw[HW.out];refine Run.start 9 ?_;refine .mv .o ?_;refine .c1 (.i 0) (x:=.k (.bool true)) (by rintro u w2 hB rfl;exact f_r _ h1_.out w2) ?_;refine .nt (.i 1) ?_;refine .mv (.i 2) ?_;refine .ld .o (ldInt b4 0) ?_;refine .c1 (.i 4) (x:=.k (.bool true)) (by rintro u w2 hB rfl;exact f_r _ h2_.out w2) ?_;refine .nt (.i 5) ?_;refine .pk (.i 3) (.i 6) false ?_;refine .mv (.i 7) ?_;refine .donep [some 9,some 10,some 11,some 12,some 13,some 14,some 15,some 16,some 8] ?_;intro w2 B2;change Shut (wpList _ _ _ [] _ _);refine⟨?_⟩;simp only[Act.put,lS,lZ,lC];replace b4:=b4.below B2;replace b5:=b5.below B2;replace b6:=b6.below B2;have HZ2:=Lib.hid (zup HZ.out B2);clear B2 HZ;go_upto_region 3 with fail
 refine Run.start 7 ?_;refine .ld .o (ldIL b5 0) ?_;refine .len (.i 0) Tryz.underlying112 ?_;refine .mv .o ?_;refine .ld .o (ldInt b4 0) ?_;refine .two (.i 2) (.i 3) (opMulN r c (by omega)) ?_;refine .two (.i 1) (.i 4) (opNe (decide_eq_false (by have:=hn_.out;omega:¬((n:Int)≠((r*c:Nat):Int))))) ?_;refine .mv (.i 5) ?_;refine .donep [some 19,some 20,some 21,some 22,some 23,some 24,some 18] ?_;intro w3 B3;change Shut (wpList _ _ _ [] _ _);refine⟨?_⟩;simp only[Act.put,lS,lZ,lC];replace b4:=b4.below B3;replace b5:=b5.below B3;replace b6:=b6.below B3;have HZ3:=Lib.hid (zup HZ2.out B3);clear B3 HZ2;go_upto_region 5 with fail
 refine Run.start 4 ?_;refine .mv .o ?_;refine .ld .o (ldInt b4 0) ?_;refine .fn [] [.o,.o] [] [_,_] (trivial) (⟨rfl,rfl,trivial⟩) ?_;refine .c3 (.i 0) (.i 1) (.i 2) (x:=kM true r c 1 (fun i j=>xs.getD (i*c+j) 0)) (by rintro u v x w4 hB rfl rfl rfl;exact u_d hr hc (by kernel_rfl) (fun i j W hi hj hW=>by rw[argsC2];exact of1_q ((b5.below hB).below hW) ((b4.below hB).below hW) (hl.below (zup (zup HZ3.out hB) hW)) hn_.out hr hc hi hj)) ?_;refine .donep [some 26,some 27,some 28,some 29] ?_;intro w4 B4;rintro v ⟨A_,n_,d_,rfl,hM⟩;change Shut (wpList _ _ _ [_,_] _ _);refine⟨?_⟩;simp only[Act.put,lS,lZ,lC];have P:=Lib.hid (retME hM (b6.below B4) (by omega) (zup HZ3.out B4));unfold mput at P;obtain⟨i0,i1,i2,i3,i4,i5,i6⟩:=(b6.below B4).m3;clear hM
 go_wp2_with fail
 exact bodyPost_ret (v:=.tuple #[.agg #[.int .i64 (r:Int),.int .i64 (c:Int),.slice A_ n_ d_],.int .i64 0]) (by simp[results,Tryz.results51,go_sem,i0,i1,i2]) rfl P.out
theorem w_a {r:Nat}{w:World}(hr:r≤64):Calls Tryz.prog 121 #[.int .i64 (r:Int)] w (RetK (kT (kM true r r (1) (fun i j=>if i=j then 1 else 0)) (.k (.int .i64 0))) w):=by
 have h1:sd (r:Int)=true:=by unfold sd;exact decide_eq_true (by omega)
 obtain⟨w1,hw1,b2,z1,s1⟩:=boxes1 w 53 [.int .i64 0,.int .i64 0,.slice none 0 0];have HW:=Lib.hid hw1;have HZ:=Lib.hid z1;have h1_:=Lib.hid h1;clear hw1 z1 h1 s1;go_enter Tryz.func121,Tryz.ntmps121
 go_upto_region 1 with fail
 rw[HW.out];refine Run.start 3 ?_;refine .mv .o ?_;refine .c1 (.i 0) (x:=.k (.bool true)) (by rintro u w2 hB rfl;exact f_r _ h1_.out w2) ?_;refine .nt (.i 1) ?_;refine .donep [some 4,some 5,some 6] ?_;intro w2 B2;change Shut (wpList _ _ _ [] _ _);refine⟨?_⟩;simp only[Act.put,lS,lZ,lC];replace b2:=b2.below B2;have HZ2:=Lib.hid (zup HZ.out B2);clear B2 HZ;go_upto_region 3 with fail
 refine Run.start 3 ?_;refine .mv .o ?_;refine .mv .o ?_;refine .c3 (.i 0) (.i 1) .o (x:=kM true r r 1 (fun i j=>if i=j then 1 else 0)) (by rintro u v x w4 hB rfl rfl rfl;exact u_d hr hr (by kernel_rfl) (fun i j W hi hj hW=>by rw[argsF];exact x_b W)) ?_;refine .donep [some 8,some 9,some 10] ?_;intro w3 B3;rintro v ⟨A_,n_,d_,rfl,hM⟩;change Shut (wpList _ _ _ [_,_] _ _);refine⟨?_⟩;simp only[Act.put,lS,lZ,lC];have P:=Lib.hid (retME hM (b2.below B3) (by omega) (zup HZ2.out B3));unfold mput at P;obtain⟨i0,i1,i2,i3,i4,i5,i6⟩:=(b2.below B3).m3;clear hM
 go_wp2_with fail
 exact bodyPost_ret (v:=.tuple #[.agg #[.int .i64 (r:Int),.int .i64 (r:Int),.slice A_ n_ d_],.int .i64 0]) (by simp[results,Tryz.results121,go_sem,i0,i1,i2]) rfl P.out
end
section
open Go.RowKit
theorem v_l {N D:Int}{n m K:Nat}{u v:Value}{w:World}(k:Nat)(hx:IsV N n u w)(hy:IsV D m v w)(hn:n≤k)(hm:m≤k)(h1:1≤k)(hk:k≤1073741824)(hK:k≤K){b:Bool}(hb:decide (D≠0)=b):Calls Tryz.prog 136 #[u,v] w (RetK (kT (kQ (Rat.divInt N D) K) (.k (.bool b))) w):=by
 obtain⟨s,A,a,c,rfl,h1',h2⟩:=hx;obtain⟨s',A',a',c',rfl,h1'',h2'⟩:=hy;refine(y_n h1' h1'' (Nat.le_trans h2 hn) (Nat.le_trans h2' hm) h1 hk hb).mono fun e w' h=>?_;obtain⟨s,A,n,c,t,B,m,d,rfl,hq,h3,h4,hB⟩:=h;exact⟨_,rfl,⟨_,_,rfl,⟨s,A,n,c,t,B,m,d,rfl,hq,Nat.le_trans h3 hK,Nat.le_trans h4 hK⟩,rfl⟩,hB⟩
theorem h_m {z:Int}{n:Nat}{u:Value}{w:World}(k:Nat)(hx:IsV z n u w)(hn:n≤k)(h1:1≤k)(hk:k≤1073741824):Calls Tryz.prog 33 #[u] w (RetK (kQ (z:Rat) k) w):=by
 obtain⟨s,A,a,c,rfl,g1,g2⟩:=hx;exact(qof_v g1 (Nat.le_trans g2 hn) h1 hk).mono fun e w' h=>h.q (Nat.le_refl _)
theorem zeroQ {w:World}{g:Nat}(h:w.heap[g]? =some (zeroObj 46)):Bx w g 46 [.bool false,.slice none 0 0,.bool false,.slice none 0 0]:=h.trans (congrArg some (by kernel_rfl))
theorem zeroMq {w:World}{g:Nat}(h:w.heap[g]? =some (zeroObj 24)):Bx w g 24 [.int .i64 0,.int .i64 0,.slice none 0 0]:=h.trans (congrArg some (by kernel_rfl))
theorem retMwE {b:Nat}{w w2:World}{r c n d k g m e:Nat}{A B:Option Addr}{F:Nat→Nat→Rat}{x y:Int}(h:Mw b w2 r c A n d k F)(bx:Bx w2 g 24 [.int .i64 x,.int .i64 y,.slice B m e])(hg:w.heap.size≤g)(hB:Below w.heap.size w w2):
  RetK (kT (kMw b r c k F) (.k (.int .i64 0))) w (.returned (.tuple #[.agg #[.int .i64 (r:Int),.int .i64 (c:Int),.slice A n d],.int .i64 0])) (mput w2 g (r:Int) (c:Int) A n d):=⟨_,rfl,⟨_,_,rfl,⟨A,n,d,rfl,h.box bx (by decide) (by simp) (a_k _ _ _ _ _ _ _)⟩,rfl⟩,b_u hB hg⟩
theorem argsO (i j a b:Value):#[]++ #[i,j]++ #[a,b]= #[i,j,a,b]:=rfl
theorem argsO0 (i j:Value):#[]++ #[i,j]++ #[]= #[i,j]:=rfl
theorem m_8 {N D:Int}{n m K:Nat}{u v:Value}{w:World}(k:Nat)(hx:IsV N n u w)(hy:IsV D m v w)(hn:n≤k)(hm:m≤k)(h1:1≤k)(hk:k≤1073741824)(hK:k≤K):Calls Tryz.prog 86 #[u,v] w (RetK (kQ (Rat.divInt N D) K) w):=by
 obtain⟨s,A,a,c,rfl,hx1,hx2⟩:=hx;obtain⟨s',A',a',c',rfl,hy1,hy2⟩:=hy;obtain⟨w1,hw1,b2,b3,b4,z1,s1⟩:=boxes3 w 44 44 46 [.bool s,.slice A a c] [.bool s',.slice A' a' c'] [.bool false,.slice none 0 0,.bool false,.slice none 0 0];have HW:=Lib.hid hw1;have HZ:=Lib.hid z1;replace hx1:=hx1.below z1;replace hy1:=hy1.below z1;clear hw1 z1;go_enter Tryz.func86,Tryz.ntmps86
 go_upto_region 1 with fail
 rw[HW.out];refine Run.start 7 ?_;refine .ld .o (ldZ b2 0) ?_;refine .ld .o (ldZ b3 0) ?_;refine .c2 (.i 0) (.i 1) (x:=kT (kQ (Rat.divInt N D) K) (.k (.bool (decide (D≠0))))) (by rintro u v w3 hB rfl rfl;exact v_l k ⟨_,_,_,_,rfl,hx1.below hB,hx2⟩ ⟨_,_,_,_,rfl,hy1.below hB,hy2⟩ hn hm h1 hk hK rfl) ?_;refine .mf (.i 2) ?_;refine .ex (.i 3) 0 kT_0 ?_;refine .ex (.i 3) 1 kT_1 ?_;refine .al ?_;refine .donep [some 8,some 9,some 10,some 7,some 11,some 12,some 5] ?_;intro w2 B2;rintro v10 -;rintro v7 -;rintro v ⟨s_,A_,n_,c_,t_,B_,m_,d_,rfl,hz,hk1,hk2⟩;rintro g5 hg5 hl5 hc5 -;change Shut (wpList _ _ _ [_,_] _ _);refine⟨?_⟩;simp only[Act.put,lS,lZ,lC];have b5:=zeroQ hc5;have B0:=zup HZ.out B2;have hl4:=b4.lt;replace b4:=b4.below B2;clear b2 b3 B2 hc5 HZ hx1 hy1 s1;obtain⟨w3,hw3⟩:∃x,rput w2 g5 s_ A_ n_ c_ t_ B_ m_ d_=x:=⟨_,rfl⟩;obtain⟨f1_,f2_,f3_,f4_,f5_,f6_,f7_,f8_,f9_⟩:=b5.rb;have hgr_:=b_p w2 g5 s_ A_ n_ c_ t_ B_ m_ d_;have hno_:Wless w2 g5:=b5.now (by simp);rw[hw3]at hgr_;replace b4:=a_a b4 hgr_ (by omega);replace hz:=hz.gro hno_ hgr_;replace B0:=a_c B0 hgr_ (by omega);replace b5:=b5.rp (s':=s_) (A':=A_) (n':=n_) (c':=c_) (t':=t_) (B':=B_) (m':=m_) (d':=d_);rw[hw3]at b5;have Hw3:=Lib.hid hw3;unfold rput at Hw3;clear hw3 hgr_ hno_;go_upto_region 2 with fail
 rw[Hw3.out];clear f1_ f2_ f3_ f4_ f5_ f6_ f7_ f8_ f9_ Hw3;refine Run.start 1 ?_;refine .ld .o (ldQr b5) ?_;refine .donep [some 13] ?_;intro w4 B4;change Shut (wpList _ _ _ [_] _ _);refine⟨?_⟩;simp only[Act.put,lS,lZ,lC];have I:=(b4.below B4).rb;have P:=Lib.hid (retQ (hz.below B4) I (k:=K) hk1 hk2 (by omega) (zup B0 B4));unfold rput at P;obtain⟨i1,i2,i3,i4,i5,i6,i7,i8,i9⟩:=I;clear hz
 go_wp2_with fail
 exact bodyPost_ret (v:=.agg #[.bool s_,.slice A_ n_ c_,.bool t_,.slice B_ m_ d_]) (by simp[results,Tryz.results86,go_sem,i1,i2,i3,i4]) rfl P.out
theorem v_d (w:World):Calls Tryz.prog 109 #[] w (RetK (kQ 0 1) w):=by
 obtain⟨w1,hw1,b0,z1,s1⟩:=boxes1 w 46 [.bool false,.slice none 0 0,.bool false,.slice none 0 0];have HW:=Lib.hid hw1;have HZ:=Lib.hid z1;clear hw1 z1 s1;go_enter Tryz.func109,Tryz.ntmps109
 go_upto_region 1 with fail
 rw[HW.out];refine Run.start 2 ?_;refine .run (v:=.agg #[.bool false,.slice none 0 0]) (fun a w _=>by kernel_rfl) ?_;refine .c1 (.i 0) (x:=kQ 0 1) (by rintro u w2 hB rfl;exact h_m (z:=0) 1 ⟨false,none,0,0,rfl,(Zc.nought w2).zv,Nat.zero_le _⟩ (Nat.zero_le _) (Nat.le_refl _) (by omega)) ?_;refine .donep [some 1,some 2] ?_;intro w2 B2;rintro v ⟨s_,A_,n_,c_,t_,B_,m_,d_,rfl,hz,hk1,hk2⟩;change Shut (wpList _ _ _ [_] _ _);refine⟨?_⟩;simp only[Act.put,lS,lZ,lC];have I:=(b0.below B2).rb;have P:=Lib.hid (retQ hz I (k:=1) hk1 hk2 (by omega) (zup HZ.out B2));unfold rput at P;obtain⟨i1,i2,i3,i4,i5,i6,i7,i8,i9⟩:=I;clear hz
 go_wp2_with fail
 exact bodyPost_ret (v:=.agg #[.bool s_,.slice A_ n_ c_,.bool t_,.slice B_ m_ d_]) (by simp[results,Tryz.results109,go_sem,i1,i2,i3,i4]) rfl P.out
theorem b_m {r c:Int}{A:Option Addr}{n d:Nat}{b:Bool}(hb:fmd r c n=b)(w:World):Calls Tryz.prog 55 #[.agg #[.int .i64 r,.int .i64 c,.slice A n d]] w (RetK (.k (.bool b)) w):=by
 obtain⟨w1,hw1,b1,z1,s1⟩:=boxes1 w 24 [.int .i64 r,.int .i64 c,.slice A n d];have HW:=Lib.hid hw1;have HZ:=Lib.hid z1;have hb_:=Lib.hid hb;clear hw1 z1 hb s1;go_enter Tryz.func55,Tryz.ntmps55
 go_upto_region 1 with fail
 rw[HW.out];refine Run.start 9 ?_;refine .fa .o (fQ0 0) ?_;refine .ld (.i 0) (ldInt b1 0) ?_;refine .fa .o (fQ1 1) ?_;refine .ld (.i 2) (ldInt b1 1) ?_;refine .fa .o (fQ2 2) ?_;refine .ld (.i 4) (ldQl b1 2) ?_;refine .len (.i 5) Tryz.underlying22 ?_;refine .c3 (.i 1) (.i 3) (.i 6) (x:=.k (.bool b)) (by rintro u v x w2 hB rfl rfl rfl;exact k_p hb_.out w2) ?_;refine .mv (.i 7) ?_;refine .donep [some 3,some 4,some 5,some 6,some 7,some 8,some 9,some 10,some 2] ?_;intro w2 B2;change Shut (wpList _ _ _ [] _ _);refine⟨?_⟩;simp only[Act.put,lS,lZ,lC]
 go_wp2_with fail
 exact bodyPost_ret (v:=.bool b) (by simp[results,Tryz.results55,go_sem]) rfl (a_9 rfl (zup HZ.out B2))
theorem g_z {r c r' c':Int}{A A':Option Addr}{n d n' d':Nat}{b:Bool}(hb:(fmd r c n&&fmd r' c' n')=b)(w:World):Calls Tryz.prog 64 #[.agg #[.int .i64 r,.int .i64 c,.slice A n d],.agg #[.int .i64 r',.int .i64 c',.slice A' n' d']] w (RetK (.k (.bool b)) w):=by
 obtain⟨t1,h1⟩:∃t,fmd r c n=t:=⟨_,rfl⟩;obtain⟨t2,h2⟩:∃t,fmd r' c' n'=t:=⟨_,rfl⟩;have hb':b=(t1&&t2):=by rw[←hb,h1,h2]
 have hbb:=Lib.hid hb';obtain⟨w1,hw1,b2,b3,z1,s1⟩:=boxes2 w 24 24 [.int .i64 r,.int .i64 c,.slice A n d] [.int .i64 r',.int .i64 c',.slice A' n' d'];have HW:=Lib.hid hw1;have HZ:=Lib.hid z1;have h1_:=Lib.hid h1;have h2_:=Lib.hid h2;clear hw1 z1 h1 h2 hb hb' s1;go_enter Tryz.func64,Tryz.ntmps64
 go_upto_region 1 with fail
 rw[HW.out];cases t1
 ·refine Run.start 7 ?_;refine .ld .o (ldQm b2 0) ?_;refine .c1 (.i 0) (x:=.k (.bool false)) (by rintro u w2 hB rfl;exact b_m h1_.out w2) ?_;refine .mv (.i 1) ?_;refine .no ?_;refine .no ?_;refine .pk (.i 2) .o false ?_;refine .mv (.i 5) ?_;refine .donep [some 5,some 6,some 7,some 8,some 9,some 10,some 4] ?_;intro w2 B2;change Shut (wpList _ _ _ [] _ _);refine⟨?_⟩;simp only[Act.put,lS,lZ,lC];cases hbb.out
  go_wp2_with fail
  exact bodyPost_ret (v:=.bool false) (by simp[results,Tryz.results64,go_sem]) rfl (a_9 rfl (zup HZ.out B2))
 ·refine Run.start 7 ?_;refine .ld .o (ldQm b2 0) ?_;refine .c1 (.i 0) (x:=.k (.bool true)) (by rintro u w2 hB rfl;exact b_m h1_.out w2) ?_;refine .mv (.i 1) ?_;refine .ld .o (ldQm b3 0) ?_;refine .c1 (.i 3) (x:=.k (.bool t2)) (by rintro u w2 hB rfl;exact b_m h2_.out w2) ?_;refine .pk (.i 2) (.i 4) true ?_;refine .mv (.i 5) ?_;refine .donep [some 5,some 6,some 7,some 8,some 9,some 10,some 4] ?_;intro w2 B2;change Shut (wpList _ _ _ [] _ _);refine⟨?_⟩;simp only[Act.put,lS,lZ,lC];cases hbb.out
  go_wp2_with fail
  exact bodyPost_ret (v:=.bool t2) (by simp[results,Tryz.results64,go_sem]) rfl (a_9 rfl (zup HZ.out B2))
theorem f_2 {q:Bool}{r c n d k i j:Nat}{A:Option Addr}{F:Nat→Nat→Rat}{w:World}(h:Mq q w r c A n d k F)(hi:i<r)(hj:j<c):Calls Tryz.prog 93 #[.agg #[.int .i64 (r:Int),.int .i64 (c:Int),.slice A n d],.int .i64 (i:Int),.int .i64 (j:Int)] w (RetK (kQv (F i j) k) w):=by
 have h1:=h.hr;have h2:=h.hc;have h5:i*c≤64*64:=Nat.mul_le_mul (by omega) h2;obtain⟨w1,hw1,b3,b6,z1,s1⟩:=boxes2 w 24 46 [.int .i64 (r:Int),.int .i64 (c:Int),.slice A n d] [.bool false,.slice none 0 0,.bool false,.slice none 0 0];have HW:=Lib.hid hw1;have HZ:=Lib.hid z1;obtain⟨ad,rfl,hab,hlt,s_,A_,n_,c_,t_,B_,m_,d_,c0,c1,c2,c3,ze,hk1,hk2⟩:=(h.below z1).elem hi hj;have hz:=ze.1;clear ze h;clear hw1 z1 s1;go_enter Tryz.func93,Tryz.ntmps93
 go_upto_region 1 with fail
 rw[HW.out];refine Run.start 10 ?_;refine .fa .o (fQ2 2) ?_;refine .ld (.i 0) (ldQl b3 2) ?_;refine .mv .o ?_;refine .fa .o (fQ1 1) ?_;refine .ld (.i 3) (ldInt b3 1) ?_;refine .two (.i 2) (.i 4) (opMulN i c (by omega)) ?_;refine .mv .o ?_;refine .two (.i 5) (.i 6) (opAddN (i*c) j (by omega)) ?_;refine .two (.i 1) (.i 7) (opIxQ hlt) ?_;refine .ld (.i 8) (ldQ (by rw[a_b];exact hab) c0 c1 c2 c3) ?_;refine .donep [some 7,some 8,some 9,some 10,some 11,some 12,some 13,some 14,some 15,some 16] ?_;intro w2 B2;change Shut (wpList _ _ _ [_] _ _);refine⟨?_⟩;simp only[Act.put,lS,lZ,lC];replace hz:=hz.below B2;clear c0 c1 c2 c3;have I:=(b6.below B2).rb;have P:=Lib.hid (retQv hz I (k:=k) hk1 hk2 (by omega) (zup HZ.out B2));unfold rput at P;obtain⟨i1,i2,i3,i4,i5,i6,i7,i8,i9⟩:=I;clear hz
 go_wp2_with fail
 exact bodyPost_ret (v:=.agg #[.bool s_,.slice A_ n_ c_,.bool t_,.slice B_ m_ d_]) (by simp[results,Tryz.results93,go_sem,i1,i2,i3,i4]) rfl P.out
theorem j_7 {q:Bool}{r c n d k i j:Nat}{A:Option Addr}{F:Nat→Nat→Rat}{w:World}(h:Mq q w r c A n d k F)(hi:i<r)(hj:j<c)(hk0:1≤k)(hk:k≤1073741824):Calls Tryz.prog 74 #[.agg #[.int .i64 (r:Int),.int .i64 (c:Int),.slice A n d],.int .i64 (i:Int),.int .i64 (j:Int)] w (RetK (kQ (F i j) k) w):=by
 obtain⟨w1,hw1,b3,b6,z1,s1⟩:=boxes2 w 24 46 [.int .i64 (r:Int),.int .i64 (c:Int),.slice A n d] [.bool false,.slice none 0 0,.bool false,.slice none 0 0];have HW:=Lib.hid hw1;have HZ:=Lib.hid z1;clear hw1 z1;go_enter Tryz.func74,Tryz.ntmps74
 go_upto_region 1 with fail
 rw[HW.out];refine Run.start 5 ?_;refine .ld .o (ldQm b3 0) ?_;refine .mv .o ?_;refine .mv .o ?_;refine .c3 (.i 0) (.i 1) (.i 2) (x:=kQv (F i j) k) (by rintro u v x w3 hB rfl rfl rfl;exact f_2 (h.below (zup HZ.out hB)) hi hj) ?_;refine .al ?_;refine .donep [some 8,some 9,some 10,some 11,some 7] ?_;intro w2 B2;rintro v ⟨s_,A_,n_,c_,t_,B_,m_,d_,rfl,hz,hk1,hk2⟩;rintro g7 hg7 hl7 hc7 -;change Shut (wpList _ _ _ [_] _ _);refine⟨?_⟩;simp only[Act.put,lS,lZ,lC];have b7:=zeroQ hc7;have B0:=zup HZ.out B2;replace b6:=b6.below B2;have hl6:=b6.lt;clear b3 B2 hc7 HZ h;obtain⟨w3,hw3⟩:∃x,rput w2 g7 s_ A_ n_ c_ t_ B_ m_ d_=x:=⟨_,rfl⟩;obtain⟨f1_,f2_,f3_,f4_,f5_,f6_,f7_,f8_,f9_⟩:=b7.rb;have hgr_:=b_p w2 g7 s_ A_ n_ c_ t_ B_ m_ d_;have hno_:Wless w2 g7:=b7.now (by simp);rw[hw3]at hgr_;replace b6:=a_a b6 hgr_ (by omega);replace hz:=hz.gro hno_ hgr_;replace B0:=a_c B0 hgr_ (by omega);replace b7:=b7.rp (s':=s_) (A':=A_) (n':=n_) (c':=c_) (t':=t_) (B':=B_) (m':=m_) (d':=d_);rw[hw3]at b7;have Hw3:=Lib.hid hw3;unfold rput at Hw3;clear hw3 hgr_ hno_;go_upto_region 2 with fail
 rw[Hw3.out];clear f1_ f2_ f3_ f4_ f5_ f6_ f7_ f8_ f9_ Hw3;obtain⟨N,D,hzn,hzd,hq⟩:=hz;refine Run.start 5 ?_;refine .fa .o (fR0 0) ?_;refine .ld (.i 0) (ldZ b7 0) ?_;refine .fa .o (fR1 2) ?_;refine .ld (.i 2) (ldZ b7 2) ?_;refine .c2 (.i 1) (.i 3) (x:=kQ (F i j) k) (by rintro u v w4 hB rfl rfl;rw[←hq.out];exact m_8 k ⟨_,_,_,_,rfl,hzn.below hB,hk1⟩ ⟨_,_,_,_,rfl,hzd.below hB,hk2⟩ (Nat.le_refl _) (Nat.le_refl _) hk0 hk (Nat.le_refl _)) ?_;refine .donep [some 12,some 13,some 14,some 15,some 16] ?_;intro w4 B4;rintro v ⟨s1,A1,n1,c1,t1,B1,m1,d1,rfl,hy,hk3,hk4⟩;change Shut (wpList _ _ _ [_] _ _);refine⟨?_⟩;simp only[Act.put,lS,lZ,lC];have I:=(b6.below B4).rb;have P:=Lib.hid (retQ hy I (k:=k) hk3 hk4 (by omega) (zup B0 B4));unfold rput at P;obtain⟨i1,i2,i3,i4,i5,i6,i7,i8,i9⟩:=I;clear hy
 go_wp2_with fail
 exact bodyPost_ret (v:=.agg #[.bool s1,.slice A1 n1 c1,.bool t1,.slice B1 m1 d1]) (by simp[results,Tryz.results74,go_sem,i1,i2,i3,i4]) rfl P.out
theorem y_d (i j:Nat)(w:World):Calls Tryz.prog 115 #[.int .i64 (i:Int),.int .i64 (j:Int)] w (RetK (kQ 0 1) w):=by
 obtain⟨w1,hw1,b4,z1,s1⟩:=boxes1 w 46 [.bool false,.slice none 0 0,.bool false,.slice none 0 0];have HW:=Lib.hid hw1;have HZ:=Lib.hid z1;clear hw1 z1 s1;go_enter Tryz.func115,Tryz.ntmps115
 go_upto_region 1 with fail
 rw[HW.out];refine Run.start 1 ?_;refine .c0 (x:=kQ 0 1) (by rintro w3 hB;exact v_d w3) ?_;refine .donep [some 5] ?_;intro w2 B2;rintro v ⟨s_,A_,n_,c_,t_,B_,m_,d_,rfl,hz,hk1,hk2⟩;change Shut (wpList _ _ _ [_] _ _);refine⟨?_⟩;simp only[Act.put,lS,lZ,lC];have I:=(b4.below B2).rb;have P:=Lib.hid (retQ hz I (k:=1) hk1 hk2 (by omega) (zup HZ.out B2));unfold rput at P;obtain⟨i1,i2,i3,i4,i5,i6,i7,i8,i9⟩:=I;clear hz
 go_wp2_with fail
 exact bodyPost_ret (v:=.agg #[.bool s_,.slice A_ n_ c_,.bool t_,.slice B_ m_ d_]) (by simp[results,Tryz.results115,go_sem,i1,i2,i3,i4]) rfl P.out
theorem v_2 {r c:Nat}{w:World}(hr:r≤64)(hc:c≤64):Calls Tryz.prog 57 #[.int .i64 (r:Int),.int .i64 (c:Int)] w (RetK (kMw w.heap.size r c 1 fun _ _=>0) w):=by
 obtain⟨w1,hw1,b4,z1,s1⟩:=boxes1 w 24 [.int .i64 0,.int .i64 0,.slice none 0 0];have HW:=Lib.hid hw1;have HZ:=Lib.hid z1;clear hw1 z1 s1;go_enter Tryz.func57,Tryz.ntmps57
 go_upto_region 1 with fail
 rw[HW.out];refine Run.start 3 ?_;refine .mv .o ?_;refine .mv .o ?_;refine .c3 (.i 0) (.i 1) .o (x:=kMw w.heap.size r c 1 fun _ _=>0) (by rintro u v x w3 hB rfl rfl rfl;exact(i_u (F:=fun _ _=>0) (k:=1) hr hc (by kernel_rfl) (fun i j W _ _ _=>by rw[argsO0];exact y_d i j W)).mono fun e w' h=>h.mono fun v w2 ⟨A,n,d,e,h1⟩=>⟨A,n,d,e,h1.low (zup HZ.out hB).size⟩) ?_;refine .donep [some 5,some 6,some 7] ?_;intro w2 B2;rintro v ⟨A_,n_,d_,rfl,hM⟩;change Shut (wpList _ _ _ [_] _ _);refine⟨?_⟩;simp only[Act.put,lS,lZ,lC];have P:=Lib.hid (retMw hM (b4.below B2) (by omega) (zup HZ.out B2));unfold mput at P;obtain⟨i0,i1,i2,i3,i4,i5,i6⟩:=(b4.below B2).m3;clear hM
 go_wp2_with fail
 exact bodyPost_ret (v:=.agg #[.int .i64 (r:Int),.int .i64 (c:Int),.slice A_ n_ d_]) (by simp[results,Tryz.results57,go_sem,i0,i1,i2]) rfl P.out
end
end Go.Proofs.YtkgghhklbbfdiaaGreat
