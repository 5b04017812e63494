/- Pq21 -/
import Derived.Test.YtfhbdlegkdbmfaaGreatPq20
import Derived.Laws.CopyRow
import Derived.Laws.CopyOwn
import Derived.Deep.AppendLies
set_option linter.unusedVariables false
set_option linter.unusedSimpArgs false
set_option linter.unusedSectionVars false
set_option maxRecDepth 100000
set_option maxHeartbeats 8000000
namespace Go.Proofs.YtfhbdlegkdbmfaaGreat
section
open Go.RowKit
section
variable(P:Program)
theorem i_g (w:World)(dT sT ty elem:TypeId)(g o dLen dCap:Nat)(a:Addr)(sLen sCap:Nat)(cur:Array Value)(t:TypeId)(cs:List Value)(ck:Nat)
  (hu:P.underlying dT=some (.slice elem)) (hs:(P.info? elem).map (·.size)=some ck)
  (hg:w.heap[g]? =some (.cells cur t (0,0))) (hn:cs.length=Nat.min sLen dLen*ck)
  (hsrc:∀j v,cs[j]? =some v->w.cell? (a.add j)=some v) (hfit:o+cs.length<=cur.size) (h1:∀v∈cs,v.oneCell'=true):
  (Builtin.copy_ #[dT,sT] ty #[.slice (some ⟨g,o,none⟩) dLen dCap,.slice (some a) sLen sCap]).run P w=
   .ok (goInt (Nat.min sLen dLen)) (w.setRow g (cur.toList.take o++cs++cur.toList.drop (o+cs.length)).toArray):=by
 have hl:=run_loadCells_list (P:=P) w a cs hsrc;have hst:=run_storeCells_at P g o t cs 0 cur w hg (by simpa using hfit) h1;cases hq:P.info? elem with
 |none=>simp[hq]at hs
 |some i=>
  have hi:i.size=ck:=by simpa [hq] using hs
  simp[Builtin.copy_,run_underlying hu,Builtin.lenOf,Builtin.firstCells,sizeOf,typeInfo,hq,hi,<-hn,hl,hst]
end
section
variable {ops:Array Oper}{Q:Exit->Act->World->Prop}{m i:Nat}{a0:Act}{w0:World}{l:List FK}{b:Bool}{id:Nat}
def opCvt (o:Op):Operand:=match o with| .convert _ _ x=>x|_=>.func 0
def okCvt (ops:Array Oper)(m i:Nat)(s:Src)(S D:TypeId):Bool:=okH ops m i&&(match(opAt ops i).op with| .convert S' D' x=>S'==S&&D'==D&&s.ok ops m i x|_=>false)
theorem Run.cvt (s:Src){S D:TypeId}{u v:Value}(hr:∀w,(Go.convert S D u).run Tryz.prog w= .ok v w)(rest:R ops Q m a0 w0 b id (.k v::l) (i+1))(hc:okCvt ops m i s S D=true:=by kernel_rfl)(hg:Gd l i (opAt ops i):=by first|exact trivial|exact rfl)(hx:s.K l i a0 (opCvt (opAt ops i).op)= .k u:=by rfl):R ops Q m a0 w0 b id l i:=by
 unfold okCvt at hc;rw[Bool.and_eq_true]at hc;obtain⟨h1,h2⟩:=hc;refine Run.val h1 (FK.kne v) hg (fun a w h=>⟨v, ?_,rfl⟩) rest;unfold opCvt at hx;unfold execOp;cases e:(opAt ops i).op<;>simp only[e]at h2 hx<;>try cases h2
 rw[Bool.and_eq_true,Bool.and_eq_true,beq_iff_eq,beq_iff_eq]at h2;obtain⟨⟨rfl,rfl⟩,h2⟩:=h2;simp only[h.srcK h2 hx];simp[hr w]
end
theorem z_b {x y:Nat}(hx:x<18446744073709551616)(hy:y<18446744073709551616)(hxy:x*y<18446744073709551616)(w:World):Calls Tryz.prog 192 #[.int .u64 (x:Int),.int .u64 (y:Int)] w (RetK (.k (.tuple #[.int .u64 0,.int .u64 ((x*y:Nat):Int)])) w):=by
 obtain⟨N,hN⟩:∃N,x*y=N:=⟨_,rfl⟩;rw[hN]at hxy ⊢;have HN:=Lib.hid hN;clear hN;go_enter Tryz.func192,Tryz.ntmps192
 go_wp2_with fail
 refine(c_t x y hx hy w).mono ?_;rintro e w' ⟨hi,lo,rfl,h1,h2,h3,rfl⟩;rw[HN.out]at h1;obtain rfl:hi=0:=by omega
 obtain rfl:lo=N:=by omega
 go_wp2_with fail
 exact bodyPost_ret (v:=.tuple #[.int .u64 0,.int .u64 (lo:Int)]) (by simp[results,Tryz.results192,go_sem]) rfl (a_x rfl (Below.refl _ _))
theorem f_i {P:Program}{w:World}{ops:Array Oper}{rest:List Oper}{o:Oper}{a:Act}{Q:Exit->Act->World->Prop}(hgd:o.guard=none)(d s:Operand)(dT sT:TypeId)
  (ho:o.op= .call { callee:=.builtin .copy,args:=#[d,s],argTypes:=#[dT,sT] }) (elem:TypeId) (ck:Nat) (hu:P.underlying dT=some (.slice elem)) (hsz:(P.info? elem).map (·.size)=some ck)
  (g off dLen dCap:Nat) (ad:Addr) (sLen sCap:Nat) (hd:a.eval d= .slice (some ⟨g,off,none⟩) dLen dCap) (hs:a.eval s= .slice (some ad) sLen sCap)
  (cur:Array Value) (t:TypeId) (hg:w.heap[g]? =some (.cells cur t (0,0))) (cs:List Value) (hn:cs.length=Nat.min sLen dLen*ck)
  (hsrc:∀j v,cs[j]? =some v->w.cell? (ad.add j)=some v) (hfit:off+cs.length<=cur.size) (h1:∀v∈cs,v.oneCell'=true)
  (h:wpList P ops Q rest (a.put o.dst (goInt (Nat.min sLen dLen:Nat))) (w.setRow g (cur.toList.take off++(cs++cur.toList.drop (off+cs.length))).toArray)):wpList P ops Q (o::rest) a w:=by
 refine wpList_plain hgd fun K hK=>?_;have hrun:=i_g P w dT sT o.type elem g off dLen dCap ad sLen sCap cur t cs ck hu hsz hg hn hsrc hfit h1;unfold Oper.wp;simp[execOp,ho,resolve,invoke,builtin,hd,hs,hrun,Result.andThen];exact hK _ _ h
theorem u_o {G n l:Nat}(h1:l<n)(w:World):(Instr.sliceAt 22 (.slice (some ⟨G,0,none⟩) n n) (some (.int .i64 (l:Int))) none none).run Tryz.prog w= .ok (.slice (some ⟨G,l*4,none⟩) (n - l) (n - l)) w:=by
 have a1:(0:Int)<=(l:Int):=by omega
 have a2:(l:Int)<=(n:Int):=by omega
 have a3:¬n=l:=by omega
 simp[go_sem,Tryz.underlying22,qp_cells,a1,a2,a3,a_5]
theorem u_p {G n cap h:Nat}(h2:h<=cap)(h0:0<cap)(w:World):(Instr.sliceAt 22 (.slice (some ⟨G,0,none⟩) n cap) none (some (.int .i64 (h:Int))) none).run Tryz.prog w= .ok (.slice (some ⟨G,0,none⟩) h cap) w:=by
 have a1:(0:Int)<=(h:Int):=by omega
 have a2:(h:Int)<=(cap:Int):=by omega
 have a3:¬cap=0:=by omega
 simp[go_sem,Tryz.underlying22,qp_cells,a1,a2,a3,a_j]
section
variable {ops:Array Oper}{Q:Exit->Act->World->Prop}{m i:Nat}{a0:Act}{w0:World}{l:List FK}{b:Bool}{id:Nat}
def slLO (o:Op):List Operand:=match o with| .slice _ x (some l) none none=>[x,l] | .slice _ x none (some h) none=>[x,h] |_=>[]
def okSlL (ops:Array Oper)(m i:Nat)(s t:Src):Bool:=okH ops m i&&(match(opAt ops i).op with| .slice T x (some l) none none=>T==22&&s.ok ops m i x&&t.ok ops m i l|_=>false)
def okSlH (ops:Array Oper)(m i:Nat)(s t:Src):Bool:=okH ops m i&&(match(opAt ops i).op with| .slice T x none (some l) none=>T==22&&s.ok ops m i x&&t.ok ops m i l|_=>false)
theorem Run.slL (s t:Src){G n x:Nat}(h1:x<n)(rest:R ops Q m a0 w0 b id (.k (.slice (some ⟨G,x*4,none⟩) (n - x) (n - x))::l) (i+1))(hx:srcsK l i a0 (slLO (opAt ops i).op) [s,t] [.slice (some ⟨G,0,none⟩) n n,.int .i64 (x:Int)]:=by exact⟨rfl,rfl,trivial⟩)(hc:okSlL ops m i s t=true:=by kernel_rfl)(hg:Gd l i (opAt ops i):=by first|exact trivial|exact rfl):R ops Q m a0 w0 b id l i:=by
 unfold okSlL at hc;rw[Bool.and_eq_true]at hc;obtain⟨hh,h4⟩:=hc;refine Run.val hh (FK.kne _) hg (fun a w h=>⟨_, ?_,rfl⟩) rest;split at h4
 ·rename_i T X L e;simp only[Bool.and_eq_true,beq_iff_eq]at h4;obtain⟨⟨rfl,h2⟩,h3⟩:=h4;rw[e]at hx;obtain⟨e1,e2,-⟩:=hx;unfold execOp;rw[e];simp only[h.srcK h2 e1,h.srcK h3 e2,Option.map_some,Option.map_none];simp[u_o h1]
 ·cases h4
theorem Run.slH (s t:Src){G n cap x:Nat}(h1:x<=cap)(h0:0<cap)(rest:R ops Q m a0 w0 b id (.k (.slice (some ⟨G,0,none⟩) x cap)::l) (i+1))(hx:srcsK l i a0 (slLO (opAt ops i).op) [s,t] [.slice (some ⟨G,0,none⟩) n cap,.int .i64 (x:Int)]:=by exact⟨rfl,rfl,trivial⟩)(hc:okSlH ops m i s t=true:=by kernel_rfl)(hg:Gd l i (opAt ops i):=by first|exact trivial|exact rfl):R ops Q m a0 w0 b id l i:=by
 unfold okSlH at hc;rw[Bool.and_eq_true]at hc;obtain⟨hh,h4⟩:=hc;refine Run.val hh (FK.kne _) hg (fun a w h=>⟨_, ?_,rfl⟩) rest;split at h4
 ·rename_i T X L e;simp only[Bool.and_eq_true,beq_iff_eq]at h4;obtain⟨⟨rfl,h2⟩,h3⟩:=h4;rw[e]at hx;obtain⟨e1,e2,-⟩:=hx;unfold execOp;rw[e];simp only[h.srcK h2 e1,h.srcK h3 e2,Option.map_some,Option.map_none];simp[u_p h1 h0]
 ·cases h4
end
theorem d_b {L:List Value}(hL:L.length=4):∀n j,((List.replicate n L).flatten)[j]? =if j<n*4 then L[j%4]? else none
 |0,j=>by simp
 |n+1,j=>by
  rw[List.replicate_succ,List.flatten_cons];rcases Nat.lt_or_ge j 4 with h|h
  ·rw[List.getElem?_append_left (by omega),if_pos (by omega),Nat.mod_eq_of_lt h]
  ·rw[List.getElem?_append_right (by omega),hL,d_b hL n (j - 4)];rw[show j%4=(j - 4)%4 by omega];by_cases h2:j - 4<n*4
   ·rw[if_pos h2,if_pos (by omega)]
   ·rw[if_neg h2,if_neg (by omega)]
theorem b_8 {L:List Value}(hL:L.length=4):∀n,((List.replicate n L).flatten).length=n*4
 |0=>rfl
 |n+1=>by rw[List.replicate_succ,List.flatten_cons,List.length_append,b_8 hL n,hL];omega
def rpc (L Z:List Value)(C n:Nat):List Value:=(List.replicate n L).flatten++(List.replicate (C - n) Z).flatten
theorem o_x {L Z:List Value}(hL:L.length=4)(hZ:Z.length=4){C n:Nat}(h:n<=C):(rpc L Z C n).length=C*4:=by
 unfold rpc;rw[List.length_append,b_8 hL,b_8 hZ,<-Nat.add_mul];congr 1;omega
theorem o_w {L Z:List Value}(hL:L.length=4)(hZ:Z.length=4){C n m:Nat}(h:n+m<=C):(rpc L Z C n).take (n*4)++((List.replicate m L).flatten++(rpc L Z C n).drop (n*4+((List.replicate m L).flatten).length))=rpc L Z C (n+m):=by
 unfold rpc;have e1:((List.replicate n L).flatten++(List.replicate (C - n) Z).flatten).take (n*4)=(List.replicate n L).flatten:=by
  rw[<-b_8 hL n];exact List.take_left' rfl
 have e2:((List.replicate n L).flatten++(List.replicate (C - n) Z).flatten).drop (n*4+((List.replicate m L).flatten).length)=(List.replicate (C - (n+m)) Z).flatten:=by
  rw[b_8 hL m,show C - n=m+(C - (n+m)) by omega,<-List.replicate_append_replicate,List.flatten_append,<-List.append_assoc];have:(((List.replicate n L).flatten++(List.replicate m Z).flatten)).length=n*4+m*4:=by rw[List.length_append,b_8 hL,b_8 hZ]
  rw[<-this];exact List.drop_left' rfl
 rw[e1,e2,<-List.append_assoc,<-List.flatten_append,List.replicate_append_replicate]
theorem s_i {Z:Array Value}(hZ:Z.size=4)(n:Nat):madeCells Z (n*4)=((List.replicate n Z.toList).flatten).toArray:=by
 have hl:Z.toList.length=4:=by rw[Array.length_toList];exact hZ
 apply Array.ext_getElem?;intro j;simp only[List.getElem?_toArray];rw[d_b hl];by_cases h:j<n*4
 ·rw[if_pos h];have h4:j%4<Z.size:=by omega
  simp[madeCells,h,hZ];rw[getElem!_pos Z _ h4,Array.getElem?_eq_getElem h4]
 ·rw[if_neg h];simp[madeCells];omega
theorem y_5 {x:Nat}(h1:x<9223372036854775808)(w:World):(Go.convert 3 156 (.int .i64 (x:Int))).run Tryz.prog w= .ok (.int .u64 (x:Int)) w:=by
 have hw:IntKind.u64.wrap (x:Int)=(x:Int):=by rw[IntKind.wrap_u64];omega
 simp[go_sem,Tryz.underlying3,Tryz.underlying156,hw]
theorem cv_ui {x:Nat}(h1:x<9223372036854775808)(w:World):(Go.convert 156 3 (.int .u64 (x:Int))).run Tryz.prog w= .ok (.int .i64 (x:Int)) w:=by
 have hw:IntKind.i64.wrap (x:Int)=(x:Int):=by rw[IntKind.wrap_i64];omega
 simp[go_sem,Tryz.underlying3,Tryz.underlying156,hw]
def IsRp (b C:Nat)(L:List Value):FVal:=fun v w=>∃G,v= .slice (some ⟨G,0,none⟩) C C/\Bx w G 42 ((List.replicate C L).flatten)/\b<=G
def kRp (b C:Nat)(L:List Value):FK:=.f (IsRp b C L) (fun v w w' ⟨G,e,h1,h2⟩ hb=>⟨G,e,h1.below hb,h2⟩)
theorem info_rat4:(Tryz.prog.info? 42).map (·.size)=some 4:=by kernel_rfl
def Z4:List Value:=[.bool false,.slice none 0 0,.bool false,.slice none 0 0]
theorem h_1 {P:Program}(w:World){ops:Array Oper}{rest:List Oper}{o:Oper}{a:Act}{Q:Exit->Act->World->Prop}
  (hg:o.guard=none) (l c:Operand) (t:TypeId) (hop:o.op=Op.makeSlice t l c)
  (ht:P.underlying t=some (.slice 42)) (hinfo:(P.info? 42).map (fun i=>(i.zero,i.size,i.bytes))=some (some (.agg #[.bool false,.slice none 0 0,.bool false,.slice none 0 0]),4,64))
  (n:Nat) (hl:a.eval l= .int .i64 (n:Int)) (hc:a.eval c= .int .i64 (n:Int)) (hbytes:n<=2199023255552)
  (hK:∀w',Bx w' w.heap.size 42 (rpc [] Z4 n 0)->Below w.heap.size w w'->wpList P ops Q rest (a.put o.dst (.slice (some ⟨w.heap.size,0,none⟩) n n)) w'):
  wpList P ops Q (o::rest) a w:=by
 obtain⟨i,hi,hz0,hz1,hz2⟩:=info_parts hinfo;have hrun:=run_make (P:=P) w t 42 i (.agg #[.bool false,.slice none 0 0,.bool false,.slice none 0 0]) ht hi hz0 .i64 .i64 (n:Int) (n:Int) (by omega) (Int.le_refl _) (by rw[hz2];omega) (by omega);refine wpList_plain hg fun K hK'=>?_;unfold Oper.wp;simp[execOp,hop,hl,hc,hrun,Result.andThen];refine hK' _ _ (hK _ ?_ ((Below.refl _ _).alloc (Nat.le_refl _) _));rw[hz1];have h:=Bx.new w 42 (rpc [] Z4 n 0);have e:madeCells #[.bool false,.slice none 0 0,.bool false,.slice none 0 0] (n*4)=(rpc [] Z4 n 0).toArray:=by
  rw[s_i rfl];simp[rpc,Z4]
 show Bx (w.alloc (.cells (madeCells _ _) _)) _ _ _
 rw[show(Value.agg #[.bool false,.slice none 0 0,.bool false,.slice none 0 0]).cells= #[.bool false,.slice none 0 0,.bool false,.slice none 0 0]from rfl,e];exact h
theorem rep_q {C h0:Nat}{s t:Bool}{A B:Option Addr}{n c m d:Nat}{w:World}(hC:C<=64)(bx:Bx w h0 42 [.bool s,.slice A n c,.bool t,.slice B m d]):Calls Tryz.prog 167 #[.slice (some ⟨h0,0,none⟩) 1 1,.int .i64 (C:Int)] w (RetK (kRp w.heap.size C [.bool s,.slice A n c,.bool t,.slice B m d]) w):=by
 obtain⟨L,hL⟩:∃L,[Value.bool s,.slice A n c,.bool t,.slice B m d]=L:=⟨_,rfl⟩;have hL4:L.length=4:=by rw[<-hL];rfl
 have hZ4:Z4.length=4:=rfl;have hone:∀v,v∈L->v.oneCell'=true:=by
  intro v hv;rw[<-hL]at hv;simp at hv;rcases hv with rfl|rfl|rfl|rfl<;>rfl
 rw[hL]at bx ⊢;have HO:=Lib.hid hone;have BX:=Lib.hid bx;have u1:¬(C:Int)<0:=by omega
 clear hL hone bx;go_enter Tryz.func167,Tryz.ntmps167
 go_upto_region 3 with fail
 refine Run.start 9 ?_;refine .mv .o ?_;refine .len (.i 0) Tryz.underlying22 ?_;refine .cvt (.i 1) (y_5 (x:=1) (by omega)) ?_;refine .mv .o ?_;refine .cvt (.i 3) (y_5 (x:=C) (by omega)) ?_;refine .c2 (.i 2) (.i 4) (x:=.k (.tuple #[.int .u64 0,.int .u64 ((1*C:Nat):Int)])) (by rintro u v w2 hB rfl rfl;exact z_b (x:=1) (by omega) (by omega) (by omega) w2) ?_;refine .mv (.i 5) ?_;refine .ex (.i 6) 0 (x:=.k (.int .u64 0)) (fun v w h=>⟨_,_,h,rfl,rfl⟩) ?_;refine .ex (.i 6) 1 (x:=.k (.int .u64 (C:Int))) (fun v w h=>⟨_,_,h,rfl,by rw[Nat.one_mul];rfl⟩) ?_;refine .donep [some 13,some 14,some 15,some 16,some 17,some 18,some 12,some 19,some 20] ?_;intro w2 B2;refine sh [_,_] ?_;simp only[Act.put,lS,lZ,lC];have HB2:=Lib.hid B2;have u2:¬(9223372036854775807:Int)<(C:Int):=by omega
 clear B2;go_upto_region 6 with fail
 refine Run.start 2 ?_;refine .mv .o ?_;refine .cvt (.i 0) (cv_ui (x:=C) (by omega)) ?_;refine .donep [some 28,some 29] ?_;intro w3 B3;refine sh [_,_] ?_;simp only[Act.put,lS,lZ,lC];refine h_1 _ rfl _ _ 22 rfl Tryz.underlying22 info_rat C rfl rfl (by omega) ?_;intro w4 hb B4;obtain⟨G,hG⟩:∃G,w3.heap.size=G:=⟨_,rfl⟩;have hGw:w.heap.size<=G:=by have:=HB2.out.size;have:=B3.size;omega
 rw[hG]at hb ⊢;have hBx:=BX.out.below (zup HB2.out (zup B3 B4));have hB4:=zup HB2.out (zup B3 B4);have hlt:=hb.lt;have hlw:=BX.out.lt;have hb0:Bx w4 G 42 (rpc L Z4 C 0):=hb;have HB4:=Lib.hid hB4;have HBx:=Lib.hid hBx;have HB0:=Lib.hid hb0;clear B3 B4 hG hb hb0 hBx hB4;go_upto_region 7 with fail
 refine Run.start 2 ?_;refine .mv .o ?_;refine .mv .o ?_;refine .donep [some 31,some 32] ?_;intro w5 B5;refine sh [_,_] ?_;simp only[Act.put,lS,lZ,lC];obtain⟨m,hm⟩:∃m,Nat.min 1 C=m:=⟨_,rfl⟩;have hm1:m<=1:=by rw[<-hm];exact Nat.min_le_left _ _
 have hm2:m<=C:=by rw[<-hm];exact Nat.min_le_right _ _
 have hm3:0<C->0<m:=fun h=>by rw[<-hm];show 0<min 1 C;omega
 have hb5:=HB0.out.below B5;have hlen:=o_x hL4 hZ4 (C:=C) (n:=0) (Nat.zero_le _);refine f_i rfl _ _ 22 22 rfl 42 4 Tryz.underlying22 info_rat4 G 0 C C ⟨h0,0,none⟩ 1 1 rfl rfl _ _ hb5 ((List.replicate m L).flatten) (by rw[b_8 hL4,hm]) (fun j v hj=>?_) (by rw[b_8 hL4,List.size_toArray,hlen];omega) (fun v hv=>?_) ?_
 ·rw[d_b hL4]at hj;by_cases h:j<m*4
  ·rw[if_pos h,Nat.mod_eq_of_lt (by omega)]at hj;rw[a_5];exact((HBx.out.below B5).cell j).trans hj
  ·rw[if_neg h]at hj;cases hj
 ·obtain⟨l,hl,hv⟩:=List.mem_flatten.1 hv;rw[(List.mem_replicate.1 hl).2]at hv;exact HO.out v hv
 rw[hm];have e0:=o_w hL4 hZ4 (C:=C) (n:=0) (m:=m) (by omega);rw[Nat.zero_mul,Nat.zero_add]at e0;obtain⟨w6,hw6⟩:∃x,w5.setRow G ((rpc L Z4 C 0).toArray.toList.take 0++((List.replicate m L).flatten++(rpc L Z4 C 0).toArray.toList.drop (0+((List.replicate m L).flatten).length))).toArray=x:=⟨_,rfl⟩;have hb6:Bx w6 G 42 (rpc L Z4 C m):=by
  rw[<-hw6];refine(setRow_heap w5 G _ _ _ _ hb5).trans ?_;simp only[Nat.zero_add];rw[e0,Nat.zero_add]
 have B6:Below w.heap.size w w6:=by rw[<-hw6];exact below_setRow (zup HB4.out B5) hGw _
 rw[hw6];have HB:Hid (Below w.heap.size w w6/\Bx w6 G 42 (rpc L Z4 C m)):=Lib.hid ⟨B6,hb6⟩;clear hw6 hb6 B6 e0 hb5 hlen B5 HB0 HBx HB4 hm
 go_wp2_with fail
 go_loopw [8] (fun s8 wr=>∃n:Nat,s8= .int .i64 (n:Int)/\n<=C/\(0<C->0<n)/\Hid (Below w.heap.size w wr/\Bx wr G 42 (rpc L Z4 C n))) (fun s8 _=>C - (intOf s8).toNat)
 case atStart=>exact⟨m,by first|rfl|simp[goInt],hm2,hm3,HB⟩
 case round=>
  clear HB;obtain⟨n,rfl,hn,hn0,HB⟩:=hrel;by_cases hlt:n<C
  ·have u3:(n:Int)<(C:Int):=by omega
   obtain⟨B0,hb⟩:=HB.out;clear HB;go_upto_region 9 with fail
   refine Run.start 7 ?_;refine .mv .o ?_;refine .mv .o ?_;refine .mv .o ?_;refine .slL (.i 1) (.i 2) (G:=G) (n:=C) (x:=n) hlt ?_;refine .mv .o ?_;refine .mv .o ?_;refine .slH (.i 4) (.i 5) (G:=G) (n:=C) (cap:=C) (x:=n) hn (by omega) ?_;refine .donef [0] [some 38,some 39,some 40,some 41,some 42,some 43,some 44] (e_w (f_5 (by kernel_rfl) rfl rfl)) ?_;intro w7 B7;refine sh [_,_,_] ?_;simp only[Act.put,lS,lZ,lC];obtain⟨k,hk⟩:∃k,Nat.min n (C - n)=k:=⟨_,rfl⟩;have hk1:k<=n:=by rw[<-hk];exact Nat.min_le_left _ _
   have hk2:k<=C - n:=by rw[<-hk];exact Nat.min_le_right _ _
   have hk3:0<k:=by rw[<-hk];have:=hn0 (by omega);show 0<min n (C - n);omega
   have hb7:=hb.below B7;have hlen:=o_x hL4 hZ4 hn;refine f_i rfl _ _ 22 22 rfl 42 4 Tryz.underlying22 info_rat4 G (n*4) (C - n) (C - n) ⟨G,0,none⟩ n C rfl rfl _ _ hb7 ((List.replicate k L).flatten) (by rw[b_8 hL4,hk]) (fun j v hj=>?_) (by rw[b_8 hL4,List.size_toArray,hlen];omega) (fun v hv=>?_) ?_
   ·rw[d_b hL4]at hj;by_cases h:j<k*4
    ·rw[if_pos h]at hj;rw[a_5];refine(hb7.cell j).trans ?_;unfold rpc;rw[List.getElem?_append_left (by rw[b_8 hL4];omega),d_b hL4,if_pos (by omega)];exact hj
    ·rw[if_neg h]at hj;cases hj
   ·obtain⟨l,hl,hv⟩:=List.mem_flatten.1 hv;rw[(List.mem_replicate.1 hl).2]at hv;exact HO.out v hv
   rw[hk];have e0:=o_w hL4 hZ4 (C:=C) (n:=n) (m:=k) (by omega);obtain⟨w8,hw8⟩:∃x,w7.setRow G ((rpc L Z4 C n).toArray.toList.take (n*4)++((List.replicate k L).flatten++(rpc L Z4 C n).toArray.toList.drop (n*4+((List.replicate k L).flatten).length))).toArray=x:=⟨_,rfl⟩;have hb8:Bx w8 G 42 (rpc L Z4 C (n+k)):=by
    rw[<-hw8];refine(setRow_heap w7 G _ _ _ _ hb7).trans ?_;rw[e0]
   have B8:Below w.heap.size w w8:=by rw[<-hw8];exact below_setRow (zup B0 B7) hGw _
   rw[hw8];have HN:Hid (Below w.heap.size w w8/\Bx w8 G 42 (rpc L Z4 C (n+k))):=Lib.hid ⟨B8,hb8⟩;have ew:IntKind.i64.wrap ((n:Int)+(k:Int))=((n+k:Nat):Int):=by rw[IntKind.wrap_i64];omega
   clear hw8 hb8 B8 e0 hb7 hlen B7 B0 hb hk
   go_wp2_with fail
   go_roundw
   case rel=>exact⟨n+k,by first|rfl|(simp[goInt];done)|(rw[<-ew];rfl),by omega,fun _=>by omega,HN⟩
   case measure=>first|(simp[intOf];done)|(simp[intOf];omega)
  ·obtain rfl:n=C:=by omega
   have u3:¬(n:Int)<(n:Int):=by omega
   obtain⟨B0,hb⟩:=HB.out;have P:Hid (RetK (kRp w.heap.size n L) w (.returned (.slice (some ⟨G,0,none⟩) n n)) wr):=Lib.hid ⟨_,rfl,⟨G,rfl,by have:=hb;unfold rpc at this;rw[Nat.sub_self]at this;simpa using this,hGw⟩,B0⟩;clear HB hb B0
   go_wp2_with fail
   exact bodyPost_ret (v:=.slice (some ⟨G,0,none⟩) n n) (by simp[results,Tryz.results167,go_sem]) rfl P.out
end
section
open Go.RowKit
theorem v_2 {A:Option Addr}{n c x:Nat}{w:World}(hx:Nv w A n c x)(hn:n<=1099511627776):
  Calls Tryz.prog 47 #[.slice A n c] w fun e w'=>e= .returned (.int .i64 (bl x))/\w=w':=by
 obtain⟨xs,h1,h2,h3,h4,h5,rfl⟩:=hx;exact d_4 A n c xs w h1 h2 h3 h4 h5 hn
end
section
open Go.RowKit
def IsN (x k:Nat):FVal:=fun v w=>∃A n c,v= .slice A n c/\Cv w A n c x/\n<=k
def kN (x k:Nat):FK:=.f (IsN x k) (fun v w w' ⟨A,n,c,e,h1,h2⟩ hb=>⟨A,n,c,e,h1.below hb,h2⟩)
theorem CvPost.q {x k k':Nat}{w w':World}{e:Ending}(h:CvPost x k w e w')(hk:k<=k'):RetK (kN x k') w e w':=by
 obtain⟨A,n,c,e,h1,h2,h3⟩:=h;exact⟨_,e,⟨A,n,c,rfl,h1,by omega⟩,h3⟩
theorem v_3 {u:Value}{x a:Nat}{w:World}(hx:IsN x a u w)(ha:a<=1099511627776):Calls Tryz.prog 47 #[u] w (RetK (.k (.int .i64 (bl x:Int))) w):=by
 obtain⟨A,n,c,rfl,h1,h2⟩:=hx;exact(v_2 h1.nv (by omega)).mono fun e w' ⟨h,e2⟩=>by subst e2;exact⟨_,h,rfl,Below.refl _ _⟩
theorem Cv.zero (w:World):Cv w none 0 0 0:=by
 have h:=(Zc.nought w).1;exact h
theorem y_e {u v:Value}{x y a b k:Nat}{w:World}(hx:IsN x a u w)(hy:IsN y b v w)(ha:a<=137438953472)(hb:b<=137438953472)(hk:max a b<=k):Calls Tryz.prog 54 #[u,v] w (RetK (kN (Nat.gcd x y) k) w):=by
 obtain⟨A,n,c,rfl,h1,h2⟩:=hx;obtain⟨A',n',c',rfl,h1',h2'⟩:=hy;exact(w_k h1.nv h1'.nv (by omega) (by omega)).mono fun e w' h=>h.q (by omega)
theorem y_d {u v:Value}{x y a b k:Nat}{w:World}(hx:IsN x a u w)(hy:IsN y b v w)(ha:a<=137438953472)(hb:b<=137438953472)(hk:a+b<=k):Calls Tryz.prog 111 #[u,v] w (RetK (kN (x / Nat.gcd x y*y) k) w):=by
 obtain⟨A,n,c,rfl,h1,h2⟩:=hx;obtain⟨A',n',c',rfl,h1',h2'⟩:=hy;exact(lcm_v h1.nv h1'.nv (by omega) (by omega)).mono fun e w' h=>h.q (by omega)
theorem y_c {x:Nat}(hx:x<18446744073709551616)(w:World):Calls Tryz.prog 55 #[.int .u64 x] w (RetK (kN x 1) w):=
 (p_e x hx w).mono fun e w' h=>(h.cv (k:=1) (by simpa using hx)).q (Nat.le_refl _)
theorem p_f {A:Option Addr}{n c k x:Nat}{w:World}(h:Cv w A n c x)(hn:n<=k)(hk:k<=1099511627776):Calls Tryz.prog 112 #[.slice A n c,.bool false] w (RetK (kC (x:Int) k) w):=
 n_8 (z:=(x:Int)) ⟨x,h.nv,Lib.hid (by simp[sg])⟩ hn hk
end
section
open Go.RowKit
def mf (R:List Zr)(c:Nat):Nat->Nat->Int:=fun i j=>ith (nums R) (i*c+j)
theorem mk_mf {R:List Zr}{r c n:Nat}(hl:R.length=n)(hn:n=r*c):mk r c (mf R c)=nums R:=y_i (by unfold nums;rw[List.length_map,hl,hn])
theorem j_8 {r c:Int}{R:List Zr}{N W:Nat}(h:fewb r c R N W=true):r<=N/\c<=N/\Fw R 100 W:=by
 unfold fewb at h;simp only[Bool.and_eq_true,decide_eq_true_eq]at h;exact⟨h.1.1,h.1.2,y_a h.2⟩
theorem RL.few {w:World}{A:Option Addr}{n d:Nat}{R:List Zr}{r c:Int}{N W:Nat}(h:RL w A n d R)(hw:fewb r c R N W=true):ZL false w A n d W (nums R):=
 h.zl fun j hj=>y_u (j_8 hw).2.2 (by omega) j (by rw[h.len];exact hj)
theorem RL.mt {w:World}{A:Option Addr}{n d:Nat}{R:List Zr}{r c:Int}{N W:Nat}(h:RL w A n d R)(hf:fmd r c n=true)(hw:fewb r c R N W=true):∃r' c':Nat,r=r'/\c=c'/\r'<=N/\c'<=N/\n=r'*c'/\Mt false w r' c' A n d W (mf R c'):=by
 unfold fmd at hf;simp only[Bool.and_eq_true,decide_eq_true_eq]at hf;obtain⟨⟨h1,h2⟩,h3⟩:=hf;obtain⟨a1,a2⟩:=q_6 h1;obtain⟨b1,b2⟩:=q_6 h2;obtain⟨e1,e2,_⟩:=j_8 hw;obtain⟨r',rfl⟩:=Int.eq_ofNat_of_zero_le a1;obtain⟨c',rfl⟩:=Int.eq_ofNat_of_zero_le b1;have hn:n=r'*c':=by
  have:(n:Int)=((r'*c':Nat):Int):=by rw[h3];simp
  omega
 refine⟨r',c',rfl,rfl,by omega,by omega,hn, ?_,by omega,by omega⟩;rw[mk_mf h.len hn];exact h.few hw
end
section
open Go.RowKit
def OwnI (w:World)(base:Nat)(e:TypeId)(v:Value)(n:Nat)(xs:List Value):Prop:=
 w.ownsRow base e 1 v n xs/\∀g cs,v.ownBlock=some g->w.heap[g]? =some (.cells cs e (0,0))->∀u,u∈cs.toList->NWd u
theorem OwnI.wless {w:World}{base g:Nat}{e:TypeId}{v:Value}{n:Nat}{xs:List Value}(h:OwnI w base e v n xs)(hg:v.ownBlock=some g):Wless w g:=fun p m hp hc=>by
 rcases h.1.2 with⟨rfl,_⟩|⟨g',cap,cur,rfl,hb,hh,_⟩
 ·cases hg
 ·have e':g'=g:=by simpa [Value.ownBlock] using hg
  subst e';have e2:cur[p.off]? =some (.int .u64 m):=by
   unfold World.cell? at hc;rw[hp,hh]at hc;exact(by simpa using hc:p.spot=none/\cur[p.off]? =some (.int .u64 m)).2
  exact h.2 g' cur hg hh (.int .u64 m) (by rw[<-Array.getElem?_toList]at e2;exact List.mem_of_getElem? e2) m rfl
theorem o_a {z:Array Value}(hs:z.size=1)(hz:∀u,u∈z.toList->NWd u)(k:Nat)(u:Value)(hu:u∈(Builtin.zeroCells z k).toList):NWd u:=by
 unfold Builtin.zeroCells at hu;rw[Array.toList_map,List.mem_map]at hu;obtain⟨i,hi,rfl⟩:=hu;have hlt:i%z.size<z.size:=Nat.mod_lt _ (by omega);rw[getElem!_pos z _ hlt];exact hz _ (Array.getElem_mem_toList hlt)
section
variable {P:Program}(w:World)
theorem f_n (base:Nat)(t ty e:TypeId)(i:TypeInfo)(z:Value)(bytes:Nat)(ht:P.underlying t=some (.slice e))(hi:P.info? e=some i)(hz:i.zero=some z)
  (hsize:i.size=1) (hby:i.bytes=bytes) (hzs:z.cells.size=1) (hzn:∀u,u∈z.cells.toList->NWd u)
  (v:Value) (n:Nat) (xs:List Value) (hown:OwnI w base e v n xs)
  (a:Addr) (c:Nat) (news:List Value) (hl:news.length=1) (hnews:∀j u,news[j]? =some u->w.cell? (a.add j)=some u) (h1:∀u∈news,u.oneCell'=true) (hn:∀u,u∈news->NWd u)
  (h63:n+1<=maxLen) (hbytes:(n+1)*bytes<=140737488355328) (hbase:base<=w.heap.size):
  ∃v' w',(Builtin.append_ #[t,t] ty #[v,.slice (some a) 1 c]).run P w= .ok v' w'/\OwnI w' base e v' (n+1) (xs++news)/\w.grownBy w' v.ownBlock/\(v'.ownBlock=v.ownBlock\/v'.ownBlock=some w.heap.size):=by
 obtain⟨v',w',hr,ho,hg,-⟩:=run_append_own (P:=P) w base t ty e i z 1 bytes ht hi hz hsize hby hzs (by omega) v n xs hown.1 a 1 c news (by omega) hnews h1 h63 hbytes hbase;suffices H:(∀g cs,v'.ownBlock=some g->w'.heap[g]? =some (.cells cs e (0,0))->∀u,u∈cs.toList->NWd u)/\(v'.ownBlock=v.ownBlock\/v'.ownBlock=some w.heap.size)from⟨v',w',hr,⟨ho,H.1⟩,hg,H.2⟩
 have hsmall:n+1<=9223372036854775807:=by simp only[maxLen]at h63;omega
 have zz:=o_a hzs hzn;have fresh:∀(ys:List Value) (k:Nat) (cap:Nat),(∀u,u∈ys->NWd u)->v'= .slice (some ⟨w.heap.size,0,none⟩) (n+1) cap->w'=w.drew.alloc (.cells (ys.toArray++news.toArray++Builtin.zeroCells z.cells k) e)->
   ∀g cs,v'.ownBlock=some g->w'.heap[g]? =some (.cells cs e (0,0))->∀u,u∈cs.toList->NWd u:=fun ys k cap hys e1 e2 g cs h2 h3 u hu=>by
  subst e1 e2;have e3:w.heap.size=g:=by simpa [Value.ownBlock] using h2
  subst e3;have h9:(w.drew.alloc (.cells (ys.toArray++news.toArray++Builtin.zeroCells z.cells k) e)).heap[w.heap.size]? =some (.cells (ys.toArray++news.toArray++Builtin.zeroCells z.cells k) e (0,0)):=heap_alloc_new w.drew _;rw[h9]at h3;injection h3 with e4
  injection e4 with e5
  subst e5;simp only[Array.toList_append,List.mem_append]at hu;rcases hu with(hu|hu)|hu
  ·exact hys u hu
  ·exact hn u hu
  ·exact zz k u hu
 rcases hown.1.2 with⟨rfl,rfl⟩|⟨g,cap,cur,rfl,hbg,hh,hnc,hcm,hcs,htake⟩
 ·have hr2:=Go.run_append_nil (P:=P) w t ty e i z ht hi hz a 1 c news (by omega) hnews (by omega) (by omega) (by simp only[Nat.zero_add]at hbytes;omega);rw[hr]at hr2;injection hr2 with e1 e2
  exact⟨fresh [] (grownCap w 1 0 e - 1) (grownCap w 1 0 e) (fun u hu=>nomatch hu) e1 (by rw[e2];simp),.inr (by rw[e1];rfl)⟩
 ·have hcur:∀u,u∈cur.toList->NWd u:=hown.2 g cur rfl hh;have hxs:∀u,u∈xs->NWd u:=fun u hu=>hcur u (by rw[<-htake]at hu;exact List.mem_of_mem_take hu);by_cases hroom:n+1<=cap
  ·have hfit:n*i.size+news.length<=cur.size:=by rw[hl,hcs,hsize];omega
   have hr2:=run_append_room (P:=P) w t ty e i ht hi g n cap cur hh a 1 c news (by omega) hnews h1 hroom hfit;rw[hr]at hr2;injection hr2 with e1 e2
   refine⟨?_,.inl (by rw[e1];rfl)⟩;intro g' cs h2 h3 u hu;subst e1 e2;have e3:g=g':=by simpa [Value.ownBlock] using h2
   subst e3;rw[setRow_heap w g cur _ e _ hh]at h3;injection h3 with e4
   injection e4 with e5
   subst e5;simp only[List.mem_append]at hu;rcases hu with(hu|hu)|hu
   ·exact hcur u (List.mem_of_mem_take hu)
   ·exact hn u hu
   ·exact hcur u (List.mem_of_mem_drop hu)
  ·have holds:∀j u,xs[j]? =some u->w.cell? ((⟨g,0,none⟩:Addr).add j)=some u:=hown.1.cells (g:=g) rfl;have hr2:=run_append_grow (P:=P) w t ty e i z ht hi hz ⟨g,0,none⟩ n cap xs (by rw[hown.1.1,hsize]) holds a 1 c news (by omega) hnews (by omega) (by omega) (growslice_fits (by omega) (by rw[hby];exact hbytes));rw[hr]at hr2;injection hr2 with e1 e2
   exact⟨fresh xs _ _ hxs e1 e2,.inr (by rw[e1];rfl)⟩
end
theorem OwnI.lt {w:World}{base:Nat}{e:TypeId}{v:Value}{n:Nat}{xs:List Value}(h:OwnI w base e v n xs){g:Nat}(hg:v.ownBlock=some g):base<=g/\g<w.heap.size:=h.1.lt g hg
theorem OwnI.kept {w w':World}{base b:Nat}{e:TypeId}{v:Value}{n:Nat}{xs:List Value}(h:OwnI w base e v n xs)(hg:w.grownBy w' (some b))(hne:v.ownBlock≠some b):OwnI w' base e v n xs:=by
 refine⟨h.1.kept hg (.inr hne),fun g cs hv hc=>h.2 g cs hv ?_⟩;rw[<-hg.block g (h.lt hv).2 (by rw[<-hv];exact hne)];exact hc
theorem OwnI.below {w w':World}{base:Nat}{e:TypeId}{v:Value}{n:Nat}{xs:List Value}(h:OwnI w base e v n xs)(hb:Below w.heap.size w w'):OwnI w' base e v n xs:=by
 refine⟨h.1.kept (row:=none) ⟨hb.os,hb.tape,hb.output,hb.size,fun k hk _=>hb.block k hk⟩ (by cases hv:v.ownBlock<;>simp),fun g cs hv hc=>h.2 g cs hv ?_⟩;rw[<-hb.block g (h.lt hv).2];exact hc
theorem OwnI.nil (w:World)(base:Nat)(e:TypeId):OwnI w base e (.slice none 0 0) 0 []:=⟨World.ownsRow_nil w _ _ _,fun g cs h=>nomatch h⟩
theorem OwnI.form {w:World}{base:Nat}{e:TypeId}{v:Value}{n:Nat}{xs:List Value}(h:OwnI w base e v n xs):∃A c,v= .slice A n c/\n<=c/\c<=9223372036854775807/\(0<n->∃g,A=some ⟨g,0,none⟩/\g<w.heap.size/\∀j u,xs[j]? =some u->w.cell? ⟨g,j,none⟩=some u):=by
 rcases h.1.2 with⟨rfl,rfl⟩|⟨g,cap,cur,rfl,hb,hh,hn,hm,hcs,ht⟩
 ·exact⟨none,0,rfl,Nat.le_refl _,by omega,fun h=>by omega⟩
 ·refine⟨_,cap,rfl,hn,by unfold maxLen at hm;omega,fun h0=>⟨g,rfl,(Array.getElem?_eq_some_iff.1 hh).1,fun j u hu=>?_⟩⟩
  have:=h.1.cells (g:=g) rfl j u hu;rwa [a_5]at this
theorem wpList_apq {P:Program}{w:World}{ops:Array Oper}{rest:List Oper}{o:Oper}{a:Act}{Q:Exit->Act->World->Prop}(hgd:o.guard=none)(s x:Operand)(t:TypeId)
  (ho:o.op= .call { callee:=.builtin .append,args:=#[s,x],argTypes:=#[t,t] }) (base:Nat) (e:TypeId) (bytes:Nat) (zv:Value)
  (ht:P.underlying t=some (.slice e)) (hinfo:(P.info? e).map (fun i=>(i.zero,i.size,i.bytes))=some (some zv,1,bytes)) (hzs:zv.cells.size=1) (hzn:∀u,u∈zv.cells.toList->NWd u) (hby:bytes<=64)
  (v:Value) (n:Nat) (xs:List Value) (hs:a.eval s=v) (hown:OwnI w base e v n xs) {g:Nat} {T:TypeId} {u:Value} (hone:Bx w g T [u]) (h1:u.oneCell'=true) (hnw:NWd u)
  (hx:a.eval x= .slice (some ⟨g,0,none⟩) 1 1) (hlen:n<=1099511627776) (hbase:base<=w.heap.size)
  (h:∀v' w',OwnI w' base e v' (n+1) (xs++[u])->Grew w w' v v'->wpList P ops Q rest (a.put o.dst v') w'):wpList P ops Q (o::rest) a w:=by
 obtain⟨i,hi,hz0,hz1,hz2⟩:=info_parts hinfo;obtain⟨v',w',hr,h2,h3,h4⟩:=f_n (P:=P) w base t o.type e i zv bytes ht hi hz0 hz1 hz2 hzs hzn v n xs hown ⟨g,0,none⟩ 1 [u] rfl (fun j y hy=>by
  rw[a_5];match j,hy with
  |0,hy=>simp at hy;subst hy;exact hone.cell 0) (by simpa using h1) (by simpa using hnw) (by unfold maxLen;omega) (by have:(n+1)*bytes<=(1099511627776+1)*64:=Nat.mul_le_mul (by omega) hby;omega) hbase
 refine wpList_plain hgd fun K' hK'=>?_;unfold Oper.wp execOp;simp only[ho,resolve,invoke,builtin,Sem.run_bind,Sem.run_pure,Result.andThen_ok,List.map_toArray,List.map_cons,List.map_nil,hs,hx,hr];exact hK' _ _ (h v' w' h2 ⟨h3,fun g hg=>by
  intro p m hp hc;rcases hown.1.2 with⟨rfl,_⟩|⟨g',cap,cur,rfl,hb,hh,_⟩
  ·cases hg
  ·have e':g'=g:=by simpa [Value.ownBlock] using hg
   subst e';have e2:cur[p.off]? =some (.int .u64 m):=by
    unfold World.cell? at hc;rw[hp,hh]at hc;exact(by simpa using hc:p.spot=none/\cur[p.off]? =some (.int .u64 m)).2
   exact hown.2 g' cur hg hh (.int .u64 m) (by rw[<-Array.getElem?_toList]at e2;exact List.mem_of_getElem? e2) m rfl,h4⟩)
theorem q_4 {P:Program}{w:World}{ops:Array Oper}{o:Oper}{a:Act}{K:Act->World->Prop}{Q:Exit->Act->World->Prop}{E:Prop}(hgd:o.guard=none)(s x:Operand)(t:TypeId)
  (ho:o.op= .call { callee:=.builtin .append,args:=#[s,x],argTypes:=#[t,t] }) (base:Nat) (e:TypeId) (i:TypeInfo) (bytes:Nat) (zv:Value)
  (ht:P.underlying t=some (.slice e)) (hi:P.info? e=some i) (hz0:i.zero=some zv) (hz1:i.size=1) (hz2:i.bytes=bytes) (hzs:zv.cells.size=1) (hzn:∀u,u∈zv.cells.toList->NWd u) (hby:bytes<=64)
  (v:Value) (n:Nat) (xs:List Value) (hs:a.eval s=v) (hown:OwnI w base e v n xs) (ad:Addr) {u:Value} (hone:w.cell? ad=some u) (h1:u.oneCell'=true) (hnw:NWd u)
  (hx:a.eval x= .slice (some ad) 1 1) (hlen:n<=1099511627776) (hbase:base<=w.heap.size)
  (h:∀g c w',OwnI w' base e (.slice (some ⟨g,0,none⟩) (n+1) c) (n+1) (xs++[u])->w.grownBy w' v.ownBlock->(v.ownBlock=some g\/g=w.heap.size)->K (a.put o.dst (.slice (some ⟨g,0,none⟩) (n+1) c)) w'):
  if Region.wanted o (yielded ops a.tmps)=true then Oper.wp P o a w K Q else E:=by
 have hw:Region.wanted o (yielded ops a.tmps)=true:=by simp[Region.wanted,hgd]
 rw[if_pos hw];obtain⟨v',w',hr,h2,h3,h4⟩:=f_n (P:=P) w base t o.type e i zv bytes ht hi hz0 hz1 hz2 hzs hzn v n xs hown ad 1 [u] rfl (fun j y hy=>by
  match j,hy with
  |0,hy=>simp at hy;subst hy;rw[a_j];exact hone) (by simpa using h1) (by simpa using hnw) (by unfold maxLen;omega) (by have:(n+1)*bytes<=(1099511627776+1)*64:=Nat.mul_le_mul (by omega) hby;omega) hbase
 obtain⟨g,c,rfl,-,-⟩:=h2.1.form (by omega);unfold Oper.wp execOp;simp only[ho,resolve,invoke,builtin,Sem.run_bind,Sem.run_pure,Result.andThen_ok,List.map_toArray,List.map_cons,List.map_nil,hs,hx,hr];exact h g c w' h2 h3 (by
  rcases h4 with h4|h4
  ·exact .inl (by rw[<-h4];rfl)
  ·exact .inr (by simpa [Value.ownBlock] using h4))
theorem l_e {w0 w w':World}{v v':Value}(hb:Below w0.heap.size w0 w)(hG:Grew w w' v v')(hv:∀g,v.ownBlock=some g->w0.heap.size<=g):Below w0.heap.size w0 w':=by
 have h:=hG.by';cases e:v.ownBlock with
 |none=>rw[e]at h;exact zup hb ⟨h.os,h.tape,h.output,h.size,fun k hk=>h.block k hk (by simp)⟩
 |some g=>rw[e]at h;exact a_c hb h (hv g e)
end
end Go.Proofs.YtfhbdlegkdbmfaaGreat
