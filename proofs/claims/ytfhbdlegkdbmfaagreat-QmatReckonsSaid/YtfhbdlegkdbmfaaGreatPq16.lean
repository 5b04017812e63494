/- Pq16 -/
import Derived.Test.YtfhbdlegkdbmfaaGreatPq15
import Derived.Deep.OwnRows
import Derived.StillTailTactics
import Derived.Deep.RegionHeld3
import Derived.Laws.IdiomStrings
set_option linter.unusedVariables false
set_option linter.unusedSimpArgs false
set_option linter.unusedSectionVars false
set_option maxRecDepth 100000
set_option maxHeartbeats 8000000
section
namespace Go.Proofs.YtfhbdlegkdbmfaaGreat
def ins (L:List Nat)(p:Nat)(ds:List Nat):List Nat:=L.take p++ds++L.drop (p+ds.length)
theorem w_f (L:List Nat)(p:Nat):ins L p []=L:=by simp[ins]
theorem h_k {L ds:List Nat}{p:Nat}(h:p+ds.length<=L.length):(ins L p ds).length=L.length:=by
 simp[ins,Nat.min_eq_left (show p<=L.length from by omega)];omega
theorem s_t {L ds:List Nat}{p c:Nat}(h:p+ds.length+1<=L.length):(ins L (p+1) ds).set p c=ins L p (c::ds):=by
 have hp:(L.take p).length=p:=by simp;omega
 unfold ins;rw[e_m (by omega),List.append_assoc,List.append_assoc,List.set_append_right _ _ (by omega),hp,Nat.sub_self];simp only[List.set_cons_zero,List.append_assoc,List.length_cons,List.cons_append,List.nil_append];rw[show p+1+ds.length=p+(ds.length+1)from by omega]
theorem w_g {L ds es:List Nat}{p q:Nat}(hq:q=p+ds.length)(h:q+es.length<=L.length):ins (ins L p ds) q es=ins L p (ds++es):=by
 subst hq;have hp:(L.take p++ds).length=p+ds.length:=by simp;omega
 unfold ins;rw[<-hp,List.take_left,List.drop_append,hp,List.drop_eq_nil_of_le (by omega),List.nil_append,List.drop_drop,List.length_append,List.append_assoc,List.append_assoc,List.append_assoc,List.append_assoc];rw[show p+ds.length+es.length=p+(ds.length+es.length)from by omega,show p+ds.length+(p+(ds.length+es.length) - (p+ds.length))=p+(ds.length+es.length)from by omega]
theorem w_h {L ds:List Nat}(h:ds.length=L.length):ins L 0 ds=ds:=by simp[ins,h]
end Go.Proofs.YtfhbdlegkdbmfaaGreat
namespace Go.Proofs.YtfhbdlegkdbmfaaGreat
open Go.RowKit
def WrPost (w:World)(g p:Nat)(L ds:List Nat)(e:Ending)(w':World):Prop:=
 e= .returned (.tuple #[])/\Blk w' g 5 .u8 (ins L p ds)/\w.grownBy w' (some g)
theorem h_m (w:World)(r:Option Nat):w.grownBy w r:=⟨rfl,rfl,rfl,Nat.le_refl _,fun _ _ _=>rfl⟩
def WwRel (w:World)(g p m:Nat)(L:List Nat)(x k:Nat)(s:Value)(wr:World):Prop:=
 s= .int .u64 ((x / 10^(m - k):Nat):Int)/\Blk wr g 5 .u8 (ins L (p+k) (fw (m - k) x))/\w.grownBy wr (some g)
theorem w_l {m k x:Nat}(hk:k<m):fw (m - k) x=(48+x / 10^(m - (k+1))%10)::fw (m - (k+1)) x:=by
 rw[show m - k=(m - (k+1))+1 from by omega,p_x]
theorem WwRel.next {w wr:World}{g p m k x y c:Nat}{L:List Nat}{s:Value}(hk:k<m)(hp:p+m<=L.length)(hy:x / 10^(m - (k+1))=y)(hc:c=48+y%10)(hs:s= .int .u64 ((y / 10:Nat):Int))
  (hb:Blk wr g 5 .u8 (ins L (p+(k+1)) (fw (m - (k+1)) x))) (hg:w.grownBy wr (some g)):WwRel w g p m L x k s (wr.setCell ⟨g,p+k,none⟩ (.int .u8 (c:Int))):=by
 have h:=hb.set (p+k) c;rw[<-Nat.add_assoc,s_t (by rw[b_6];omega)]at h;refine⟨?_, ?_,g_r hg _ _⟩
 ·rw[hs,<-hy,Nat.div_div_eq_div_mul,<-Nat.pow_succ,show(m - (k+1)).succ=m - k from by omega]
 ·rw[w_l hk,hy,<-hc];exact h
theorem k_e (g p m cap:Nat)(L:List Nat)(x:Nat)(w:World)(hb:Blk w g 5 .u8 L)(hp:p+m<=L.length)(hL:L.length<=1099511627776)(hx:x<18446744073709551616):
  Calls Tryz.prog 196 #[.slice (some ⟨g,p,none⟩) m cap,.int .u64 x] w (WrPost w g p L (fw m x)):=by
 go_enter Tryz.func196,Tryz.ntmps196
 go_wp2
 go_loopw [1,4] (fun s i wr=>∃k:Nat,k<=m/\i= .int .i64 ((k:Int) - 1)/\WwRel w g p m L x k s wr) (fun _ i _=>(intOf i+1).toNat)
 case atStart=>exact⟨m,Nat.le_refl _,rfl,by simp,by rw[Nat.sub_self];simpa [fw,w_f] using hb,h_m _ _⟩
 case round=>
  obtain⟨k,hk,rfl,rfl,hbk,hg⟩:=hrel;rcases Nat.eq_zero_or_pos k with rfl|hpos
  ·have P:Hid (WrPost w g p L (fw m x) (.returned (.tuple #[])) wr):=Lib.hid ⟨rfl,by simpa using hbk,hg⟩;clear hbk hg
   go_wp2
   go_end0
   exact P.out
  ·obtain⟨i,rfl⟩:∃i,k=i+1:=⟨k - 1,by omega⟩;rw[show(((i+1:Nat):Int) - 1)=(i:Int)from by omega];have hlen:(ins L (p+(i+1)) (fw (m - (i+1)) x)).length=L.length:=h_k (by rw[b_6];omega);have cs:=hbk.cell (j:=p+i) (by rw[hlen];omega);have cf:=hbk.free (p+i);obtain⟨y,hy⟩:∃y,x / 10^(m - (i+1))=y:=⟨_,rfl⟩;have hyx:y<=x:=by rw[<-hy];exact Nat.div_le_self _ _
   rw[hy];have HN:=fun c s h1 h2=>WwRel.next (w:=w) (s:=s) (c:=c) hk hp hy h1 h2 hbk hg;have HN':=Lib.hid HN;clear hlen hy HN hbk hg hpos
   go_wp2
   go_roundw
   case rel=>exact⟨i,by omega,by go_num,HN'.out _ _ rfl rfl⟩
   case measure=>simp[intOf]
def CutsAt (w:World)(g n:Nat):Prop:=∀j,j<n->∃A m c,w.cell? ⟨g,j,none⟩=some (.slice A m c)/\Cv w A m c (10^(18*2^j))/\m<=2^j
theorem CutsAt.le {w:World}{g n m:Nat}(h:CutsAt w g n)(hm:m<=n):CutsAt w g m:=fun j hj=>h j (by omega)
theorem CutsAt.below {w w':World}{g n:Nat}(h:CutsAt w g n)(hb:Below w.heap.size w w')(hg:g<w.heap.size):CutsAt w' g n:=fun j hj=>by
 obtain⟨A,m,c,h1,h2,h3⟩:=h j hj;exact⟨A,m,c,(hb.cell (p:=⟨g,j,none⟩) hg).trans h1,h2.below hb,h3⟩
def Cuts (w:World)(A:Option Addr)(n c:Nat):Prop:=∃g,A=some ⟨g,0,none⟩/\g<w.heap.size/\n<=c/\c<=20/\CutsAt w g n
theorem Cuts.below {w w':World}{A:Option Addr}{n c:Nat}(h:Cuts w A n c)(hb:Below w.heap.size w w'):Cuts w' A n c:=by
 obtain⟨g,rfl,h1,h2,h3,h4⟩:=h;exact⟨g,rfl,Nat.lt_of_lt_of_le h1 hb.size,h2,h3,h4.below hb h1⟩
theorem f_u {P:Program}(w:World){ops:Array Oper}{rest:List Oper}{o:Oper}{a:Act}{Q:Exit->Act->World->Prop}
  (hg:o.guard=none) (l c:Operand) (t:TypeId) (hop:o.op=Op.makeSlice t l c)
  (e:TypeId) (bytes:Nat) (ht:P.underlying t=some (.slice e)) (hinfo:(P.info? e).map (fun i=>(i.zero,i.size,i.bytes))=some (some (.slice none 0 0),1,bytes))
  (kl kc:IntKind) (L C:Int) (n:Nat) (hl:a.eval l= .int kl L) (hc:a.eval c= .int kc C) (hL:L=(n:Int)) (hC:C=(n:Int)) (hbytes:bytes*n<=281474976710656) (h63:n<=9223372036854775807)
  (hK:∀w',w'.heap[w.heap.size]? =some (.cells (List.replicate n (.slice none 0 0)).toArray e (0,0))->Below w.heap.size w w'->w'.heap.size=w.heap.size+1->wpList P ops Q rest (a.put o.dst (.slice (some ⟨w.heap.size,0,none⟩) n n)) w'):
  wpList P ops Q (o::rest) a w:=by
 subst hL hC;obtain⟨i,hi,hz0,hz1,hz2⟩:=info_parts hinfo;refine wpList_make_row w hg l c t hop e i (.slice none 0 0) ht hi hz0 hz1 rfl kl kc n hl hc (by rw[hz2];exact hbytes) h63 ?_;refine hK _ ?_ ((Below.refl _ _).alloc (Nat.le_refl _) _) (by simp);rw[heap_alloc_new w];congr 2
 apply Array.ext
 ·simp[size_madeCells]
 ·intro i h1 h2;simp[madeCells,Nat.mod_one]
theorem info_cut:(Tryz.prog.info? 29).map (fun i=>(i.zero,i.size,i.bytes))=some (some (.slice none 0 0),1,24):=by kernel_rfl
theorem r_p {w w':World}{K:IntKind}{A:Option Addr}{xs:List Nat}{g:Nat}{cs:Array Value}{t:TypeId}{fr:Nat × Nat}(h:Rd w K A xs)(hg:w.heap[g]? =some (.cells cs t fr))
  (hno:∀(i:Nat) (n:Int),cs[i]? ≠some (.int K n)) (hb:w.grownBy w' (some g)):Rd w' K A xs:=fun hn=>by
 obtain⟨ad,rfl,hlt,hc⟩:=h hn;have hne:ad.block≠g:=fun e=>by
  have h1:=hc 0 hn;unfold World.cell? at h1;rw[a_b,e,hg]at h1;simp only at h1;split at h1
  ·cases h1
  ·exact hno _ _ h1
 exact h.grown hb (fun ad' e=>by cases e;intro e2;exact hne (Option.some.inj e2)) hn
theorem Cv.apart {w w':World}{A:Option Addr}{n c v g:Nat}{cs:Array Value}{t:TypeId}{fr:Nat × Nat}(h:Cv w A n c v)(hg:w.heap[g]? =some (.cells cs t fr))
  (hno:∀(i:Nat) (n:Int),cs[i]? ≠some (.int .u64 n)) (hb:w.grownBy w' (some g)):Cv w' A n c v:=⟨r_p h.1 hg hno hb,h.2⟩
def AllSl (V:List Value):Prop:=∀v∈V,∃A n c,v= .slice A n c
theorem AllSl.no {V:List Value}(h:AllSl V)(i:Nat)(n:Int):V.toArray[i]? ≠some (.int .u64 n):=fun e=>by
 rw[List.getElem?_toArray]at e;obtain⟨A,m,c,hv⟩:=h _ (List.mem_of_getElem? e);cases hv
theorem AllSl.set {V:List Value}(h:AllSl V)(k:Nat)(A:Option Addr)(n c:Nat):AllSl (V.set k (.slice A n c)):=fun v hv=>by
 rcases List.mem_or_eq_of_mem_set hv with h1|h1
 ·exact h v h1
 ·exact⟨A,n,c,h1⟩
def PwRow (w:World)(n k:Nat)(wr:World)(V:List Value):Prop:=
 wr.heap[w.heap.size]? =some (.cells V.toArray 29 (0,0))/\V.length=n/\AllSl V/\(∀j,j<k->∃A m c,V[j]? =some (.slice A m c)/\Cv wr A m c (10^(18*2^j))/\m<=2^j)/\Below w.heap.size w wr
theorem PwRow.below {w wr w':World}{n k:Nat}{V:List Value}(h:PwRow w n k wr V)(hb:Below wr.heap.size wr w'):PwRow w n k w' V:=by
 obtain⟨h1,h2,h3,h4,h5⟩:=h;refine⟨(hb.block _ (Array.getElem?_eq_some_iff.1 h1).1).trans h1,h2,h3,fun j hj=>?_,h5.trans (hb.mono h5.size)⟩;obtain⟨A,m,c,e1,e2,e3⟩:=h4 j hj;exact⟨A,m,c,e1,e2.below hb,e3⟩
theorem PwRow.next {w wr:World}{n k:Nat}{V:List Value}{A:Option Addr}{m c:Nat}(h:PwRow w n k wr V)(hk:k<n)(hc:Cv wr A m c (10^(18*2^k)))(hm:m<=2^k):
  PwRow w n (k+1) (wr.setCell ⟨w.heap.size,k,none⟩ (.slice A m c)) (V.set k (.slice A m c))/\Cv (wr.setCell ⟨w.heap.size,k,none⟩ (.slice A m c)) A m c (10^(18*2^k)):=by
 obtain⟨h1,h2,h3,h4,h5⟩:=h;have hg:=g_r (h_m wr (some w.heap.size)) k (.slice A m c);refine⟨⟨?_,by simp[h2],h3.set k A m c,fun j hj=>?_,h5.setCell (Nat.le_refl _) _⟩,hc.apart h1 h3.no hg⟩
 ·rw[heap_setCell_same wr _ k _ _ _ h1,List.setIfInBounds_toArray]
 ·rcases Nat.lt_or_ge j k with hj2|hj2
  ·obtain⟨A',m',c',e1,e2,e3⟩:=h4 j hj2;exact⟨A',m',c',by rw[List.getElem?_set_ne (by omega)];exact e1,e2.apart h1 h3.no hg,e3⟩
  ·obtain rfl:j=k:=by omega
   exact⟨A,m,c,by rw[List.getElem?_set_self (by omega)],hc.apart h1 h3.no hg,hm⟩
theorem PwRow.cuts {w wr:World}{n:Nat}{V:List Value}(h:PwRow w n n wr V)(hn:n<=20):Cuts wr (some ⟨w.heap.size,0,none⟩) n n:=by
 obtain⟨h1,h2,h3,h4,h5⟩:=h;refine⟨_,rfl,(Array.getElem?_eq_some_iff.1 h1).1,Nat.le_refl _,hn,fun j hj=>?_⟩;obtain⟨A,m,c,e1,e2,e3⟩:=h4 j hj;exact⟨A,m,c,by rw[cell_of_row wr _ j _ _ (0,0) h1,List.getElem?_toArray,e1],e2,e3⟩
theorem PwRow.free {w wr:World}{n k:Nat}{V:List Value}(h:PwRow w n k wr V)(j:Nat):wr.frozen? ⟨w.heap.size,j,none⟩=false:=frozen_of_row wr _ j _ _ h.1
theorem PwRow.cell {w wr:World}{n k:Nat}{V:List Value}(h:PwRow w n k wr V){j:Nat}(hj:j<n):∃A m c,wr.cell? ⟨w.heap.size,j,none⟩=some (.slice A m c):=by
 have hl:j<V.length:=by rw[h.2.1];exact hj
 obtain⟨A,m,c,e⟩:=h.2.2.1 V[j] (List.getElem_mem hl);exact⟨A,m,c,by rw[cell_of_row wr _ j _ _ (0,0) h.1,List.getElem?_toArray,List.getElem?_eq_getElem hl,e]⟩
def CutsPost (n:Nat)(w:World)(e:Ending)(w':World):Prop:=∃A c,e= .returned (.slice A n c)/\Cuts w' A n c/\Below w.heap.size w w'
theorem m_8 (k:Nat):(10:Nat)^(18*2^k)*10^(18*2^k)=10^(18*2^(k+1)):=by
 rw[<-Nat.pow_add,Nat.pow_succ];congr 1;omega
theorem i_5 {k:Nat}(h:k<=20):2^k<=1048576:=Nat.pow_le_pow_right (n:=2) (j:=20) (by omega) h
def PwState (w:World)(n k:Nat)(s:Value)(wr:World):Prop:=
 (∃V,PwRow w n k wr V)/\(∃A m c,s= .slice A m c/\Cv wr A m c (10^(18*2^(k - 1)))/\m<=2^(k - 1))
theorem PwRow.start {w w1:World}{n:Nat}(h:w1.heap[w.heap.size]? =some (.cells (List.replicate n (.slice none 0 0)).toArray 29 (0,0)))(hb:Below w.heap.size w w1):PwRow w n 0 w1 (List.replicate n (.slice none 0 0)):=
 ⟨h,by simp,fun v hv=>⟨none,0,0,(List.mem_replicate.1 hv).2⟩,fun j hj=>by omega,hb⟩
theorem j_t (n:Nat)(hn:n<=20)(w:World):
  Calls Tryz.prog 177 #[.int .i64 n] w (CutsPost n w):=by
 go_enter Tryz.func177,Tryz.ntmps177
 go_wp2_with (at_make;refine f_u _ rfl _ _ 183 rfl 29 24 Tryz.underlying183 info_cut _ _ _ _ n rfl rfl rfl rfl (by omega) (by omega) ?_)
 intro w1 h1 b1 z1;have R0:=PwRow.start h1 b1;clear h1 z1
 go_wp2_with fail
 refine(ofc_v 1000000000000000000 (by omega) _).mono ?_;rintro e w2 ⟨A2,n2,c2,rfl,h2,k2,b2⟩;have R1:=R0.below b2;have S1:PwState w n 0 (.slice A2 n2 c2) w2:=⟨⟨_,R1⟩,_,_,_,rfl,h2,k2⟩;clear R0 R1 h2 k2 b1 b2
 go_wp2
 go_loopw [4,11] (fun s i wr=>∃k:Nat,k<=n/\i= .int .i64 k/\PwState w n k s wr) (fun _ i _=>n - (intOf i).toNat)
 case atStart=>exact⟨0,Nat.zero_le _,rfl,S1⟩
 case round=>
  obtain⟨k,hk,rfl,⟨V,hV⟩,A,m,c,rfl,hC,hm⟩:=hrel;clear S1;by_cases hlt:k<n
  ·rcases Nat.eq_zero_or_pos k with rfl|hpos
   ·obtain⟨B,q,d,hc0⟩:=hV.cell hlt;have hf:=hV.free 0;have N1:=hV.next hlt hC hm;have HN1:=Lib.hid N1;clear N1 hV hC
    go_wp2
    go_roundw
    case rel=>exact⟨1,by omega,by go_num,⟨_,HN1.out.1⟩,_,_,_,rfl,HN1.out.2,hm⟩
    case measure=>simp[intOf];omega
   ·obtain⟨i,rfl⟩:∃i,k=i+1:=⟨k - 1,by omega⟩;rw[Nat.add_sub_cancel]at hC hm;have hm2:=i_5 (k:=i) (by omega)
    go_wp2_with fail
    refine(o_n hC.nv (by omega)).mono ?_;rintro e w3 ⟨A3,n3,c3,rfl,h3,k3,b3⟩;rw[m_8]at h3;have hV3:=hV.below b3;obtain⟨B,q,d,hc0⟩:=hV3.cell hlt;have hf:=hV3.free (i+1);have hm3:n3<=2^(i+1):=by rw[Nat.pow_succ];omega
    have N1:=hV3.next hlt h3 hm3;have HN1:=Lib.hid N1;have HM3:=Lib.hid hm3;clear N1 hV hV3 hC h3 hm hm2 hm3 b3 k3
    go_wp2
    go_roundw
    case rel=>exact⟨i+1+1,by omega,by go_num,⟨_,HN1.out.1⟩,_,_,_,rfl,HN1.out.2,HM3.out⟩
    case measure=>simp[intOf];omega
  ·obtain rfl:k=n:=by omega
   have P:Hid (CutsPost k w (.returned (.slice (some ⟨w.heap.size,0,none⟩) k k)) wr):=Lib.hid ⟨_,_,rfl,hV.cuts hn,hV.2.2.2.2⟩;clear hV hC hm
   go_wp2
   go_ret
   exact P.out
theorem Blk.no8 {w:World}{g:Nat}{t:TypeId}{L:List Nat}(h:Blk w g t .u8 L)(i:Nat)(n:Int):(vs .u8 L).toArray[i]? ≠some (.int .u64 n):=fun e=>by
 rw[List.getElem?_toArray]at e
 have:=List.mem_of_getElem? e;simp[vs]at this
theorem Cv.bytes {w w':World}{A:Option Addr}{n c v g:Nat}{t:TypeId}{L:List Nat}(h:Cv w A n c v)(hb:Blk w g t .u8 L)(hg:w.grownBy w' (some g)):Cv w' A n c v:=h.apart hb hb.no8 hg
theorem Cuts.bytes {w w':World}{A:Option Addr}{n c g:Nat}{t:TypeId}{L:List Nat}(h:Cuts w A n c)(hb:Blk w g t .u8 L)(hg:w.grownBy w' (some g)):Cuts w' A n c:=by
 obtain⟨q,rfl,h1,h2,h3,h4⟩:=h;refine⟨q,rfl,Nat.lt_of_lt_of_le h1 hg.size,h2,h3,fun j hj=>?_⟩;obtain⟨B,m,d,e1,e2,e3⟩:=h4 j hj;have hne:some q≠some g:=fun e=>by
  cases e;rw[cell_of_row w _ j _ _ (0,0) hb,List.getElem?_toArray]at e1
  have:=List.mem_of_getElem? e1;simp[vs]at this
 exact⟨B,m,d,(World.cell?_of_block (hg.block q h1 hne)).trans e1,e2.bytes hb hg,e3⟩
theorem e_g {w w':World}(h:Below w.heap.size w w')(r:Option Nat):w.grownBy w' r:=⟨h.os,h.tape,h.output,h.size,fun k hk _=>h.block k hk⟩
def WriteOk (n:Nat):Prop:=∀(g p m cap na ca cc:Nat) (A C:Option Addr) (L:List Nat) (v:Nat) (w:World),Hid (m=18*2^n)->Blk w g 5 .u8 L->p+m<=L.length->L.length<=1099511627776->m<=cap->cap<=1099511627776->
 Nv w A na ca v->na<=549755813888->Hid (v<10^(18*2^n))->Cuts w C n cc->
 Calls Tryz.prog 176 #[.slice (some ⟨g,p,none⟩) m cap,.slice A na ca,.slice C n cc] w (WrPost w g p L (fw m v))
theorem write_zero:WriteOk 0:=by
 intro g p m cap na ca cc A C L v w HM hb hp hL hcap hcap2 hv hna HV hC;obtain rfl:m=18:=HM.out;have hv1:v<1000000000000000000:=HV.out;obtain⟨xs,x1,x2,x3,x4,x5,rfl⟩:=hv;have X2:=Lib.hid x2;clear x2 HM HV;go_enter Tryz.func176,Tryz.ntmps176
 go_wp2_with fail
 refine(g_9 A na ca xs _ x1 X2.out x3 x4 x5).mono ?_;rintro e w' ⟨h1|h1,rfl⟩
 ·obtain⟨h1,rfl⟩:=h1
  go_wp2_with fail
  refine(k_e g p 18 cap L (ev 18446744073709551616 xs) _ hb hp hL h1).mono ?_;rintro e w2 ⟨rfl,hb2,hg2⟩
  go_wp2
  go_end0
  exact⟨rfl,hb2,hg2⟩
 ·omega
theorem m_6 {n:Nat}(ih:WriteOk n):WriteOk (n+1):=by
 intro g p m cap na ca cc A C L v w HM hb hp hL hcap hcap2 hv hna HV hC;obtain⟨D,hD⟩:∃D,D=18*2^n:=⟨_,rfl⟩;have hm:m=D+D:=by rw[HM.out,hD,Nat.pow_succ];omega
 have HDD:=Lib.hid hm;have hD0:0<D:=by rw[hD];exact Nat.mul_pos (by omega) (Nat.pow_pos (by omega))
 have hP:0<10^(18*2^n):=Nat.pow_pos (by omega);have hvD:v / 10^D<10^D:=by
  rw[Nat.div_lt_iff_lt_mul (Nat.pow_pos (by omega)),<-Nat.pow_add,<-hm,show m=18*2^(n+1)from HM.out];exact HV.out
 have hvR:v%10^D<10^D:=Nat.mod_lt _ (Nat.pow_pos (by omega));obtain⟨q,rfl,hq,hn1,hn2,hcuts⟩:=hC;obtain⟨B,k,d,hcell,hB,hk⟩:=hcuts n (by omega);have hC:Cuts w (some ⟨q,0,none⟩) n cc:=⟨q,rfl,hq,by omega,hn2,hcuts.le (by omega)⟩;have hk2:=i_5 (k:=n) (by omega);have hkk:k<=1048576:=by omega
 have HD:=Lib.hid hD;have HVD:=Lib.hid hvD;have HVR:=Lib.hid hvR;have HP:=Lib.hid hP;have e1:(m:Int) / 2=(D:Int):=by omega
 have u1:¬cap=D:=by omega
 have u2:D<=cap:=by omega
 have u3:n<=cc:=by omega
 have u4:m - D=D:=by omega
 have u5:D<=m:=by omega
 have u6:p+D+D<=L.length:=by omega
 have hwr:IntKind.i64.wrap (D:Int)=(D:Int):=IntWalk.i64_in _ (by omega);have HWR:=Lib.hid hwr;have U4:=Lib.hid u4;clear hD hvD hvR hP hcuts HM HV hk hk2 hm u4 hwr;go_enter Tryz.func176,Tryz.ntmps176
 go_wp2_with fail
 refine(dm_v hv hB.nv (by omega) (by omega) HP.out).mono ?_;rintro e w2 ⟨A1,n1,c1,A2,n2,c2,rfl,q1,q2,k1,k2,B2⟩;have hC2:=hC.below B2;have hb2:=hb.below B2 hb.lt;have hg2:=e_g B2 (some g);rw[<-HD.out]at q1 q2;have Q1:=Lib.hid q1;have Q2:=Lib.hid q2;clear hcell hv hB hC hb q1 q2 B2
 go_wp2_with fail
 go_still_tail 7,(by kernel_rfl)
 change wpList _ _ _ _ _ w2.drew;have B3:=a_l w2;replace hC2:=hC2.below B3;replace hb2:=hb2.below B3 hb2.lt;replace hg2:=d_e hg2 (e_g B3 (some g));have Q1':=Lib.hid (Q1.out.below B3);have Q2':=Lib.hid (Q2.out.below B3);clear Q1 Q2 B3;generalize w2.drew=w3 at *
 go_wp2_with fail
 refine(ih g p D cap n1 c1 cc A1 _ L (v / 10^D) _ HD hb2 (by omega) hL (by omega) hcap2 Q1'.out.nv (by omega) (by rw[<-HD.out];exact HVD) hC2).mono ?_;rintro e w4 ⟨rfl,hb4,hg4⟩;replace hC2:=hC2.bytes hb2 hg4;have Q4:=Lib.hid (Q2'.out.bytes hb2 hg4);replace hg2:=d_e hg2 hg4;clear Q1' Q2' hb2 hg4
 go_wp2_with fail
 have u4:=U4.out;have hwr:=HWR.out;go_still_tail 7,(by kernel_rfl)
 change wpList _ _ _ _ _ w4.drew;clear u4 hwr;have B5:=a_l w4;replace hC2:=hC2.below B5;replace hb4:=hb4.below B5 hb4.lt;replace hg2:=d_e hg2 (e_g B5 (some g));have Q5:=Lib.hid (Q4.out.below B5);clear Q4 B5;generalize w4.drew=w5 at *;have hl1:(ins L p (fw D (v / 10^D))).length=L.length:=h_k (by rw[b_6];omega);have HL1:=Lib.hid hl1;clear hl1
 go_wp2_with fail
 refine(ih g (p+D) D (cap - D) n2 c2 cc A2 _ (ins L p (fw D (v / 10^D))) (v%10^D) _ HD hb4 (by rw[HL1.out];omega) (by rw[HL1.out];exact hL) (by omega) (by omega) Q5.out.nv (by omega) (by rw[<-HD.out];exact HVR) hC2).mono ?_;rintro e w6 ⟨rfl,hb6,hg6⟩;have P:Hid (WrPost w g p L (fw m v) (.returned (.tuple #[])) w6):=Lib.hid ⟨rfl,by
  rw[HDD.out,p_y,<-y_t D v,<-w_g (q:=p+D) (by rw[b_6]) (by rw[b_6];omega)];exact hb6,d_e hg2 hg6⟩
 clear hb6 hg6 hb4 hg2
 go_wp2
 go_end0
 exact P.out
theorem q_y (n:Nat):WriteOk n:=by
 induction n with
 |zero=>exact write_zero
 |succ n ih=>exact m_6 ih
theorem i_h {w:World}{g k n c:Nat}{ds:List Nat}{L:List Nat}(hb:Blk w g 5 .u8 L)(hds:L.drop k=ds)(hn:ds.length=n):
  (convert 181 9 (.slice (some ⟨g,k,none⟩) n c)).run Tryz.prog w= .ok (.string (str ds)) w:=by
 rw[<-u_i];refine run_convert_bytes_arg w _ 5 Tryz.underlying181 Tryz.underlying5 g k n c _ (by simpa using hn) (fun i hi=>?_) _ Tryz.underlying9;rw[hb.cell (by rw[<-hds,List.length_drop]at hn;omega)];have e:nth L (k+i)=nth ds i:=by rw[<-hds,b_j]
 rw[e];simp[nth,List.getD,hn,hi]
theorem info_u8:(Tryz.prog.info? 5).map (fun i=>(i.zero,i.size,i.bytes))=some (some (.int .u8 0),1,1):=by kernel_rfl
def PrPost (v:Nat)(w:World)(e:Ending)(w':World):Prop:=e= .returned (.string (str (dgs v)))/\Below w.heap.size w w'
theorem w_w {A:Option Addr}{n c v:Nat}{w:World}(hx:Nv w A n c v)(hn:n<=1099511627776):
  Calls Tryz.prog 47 #[.slice A n c] w fun e w'=>e= .returned (.int .i64 (bl v))/\w=w':=by
 obtain⟨xs,h1,h2,h3,h4,h5,rfl⟩:=hx;exact d_4 A n c xs w h1 h2 h3 h4 h5 hn
def dlen:Value->Nat
 | .slice _ n _=>n
 |_=>0
theorem m_r {D r j v:Nat}(h:j+r=D):(fw D v).drop j=fw r v:=by
 subst h;have e:=b_6 j (v / 10^r);rw[p_y,List.drop_append,e,Nat.sub_self,List.drop_eq_nil_of_le (by omega)];rfl
theorem w_m {D r j v:Nat}(h:j+r=D)(hr:0<r):nth (fw D v) j=48+v / 10^(r - 1)%10:=by
 have e:=b_j (fw D v) j 0;rw[Nat.add_zero]at e;rw[<-e,m_r h];obtain⟨s,rfl⟩:∃s,r=s+1:=⟨r - 1,by omega⟩;rw[p_x,c_c];rfl
theorem k_8 {r v:Nat}(hr:0<r)(hv:v<10^r):v / 10^(r - 1)%10=0↔v<10^(r - 1):=by
 obtain⟨s,rfl⟩:∃s,r=s+1:=⟨r - 1,by omega⟩;rw[Nat.add_sub_cancel];have h5:v / 10^s<10:=by rw[Nat.div_lt_iff_lt_mul (Nat.pow_pos (by omega)),<-Nat.pow_succ'];exact hv
 rw[Nat.mod_eq_of_lt h5,Nat.div_eq_zero_iff]
 have:=Nat.pow_pos (n:=s) (show 0<10 from by omega);omega
theorem g_m {A:Option Addr}{n c v:Nat}{w:World}(hx:Nv w A n c v)(hn:n<=1024):
  Calls Tryz.prog 140 #[.slice A n c] w (PrPost v w):=by
 have hbl:bl v<=65536:=by have:=t_b hx.lt;omega
 go_enter Tryz.func140,Tryz.ntmps140
 go_wp2_with fail
 refine(w_w hx (by omega) ).mono ?_;rintro e w' ⟨rfl,rfl⟩
 go_wp2_with fail
 refine(q_d 59 (bl v) (by omega) (by omega) (by omega) _).mono ?_;rintro e w' ⟨⟨k,rfl,d1,d2⟩,rfl⟩;have hk:=q_c (m:=11) (by omega) d2 (by omega);have hv:=t_c v k d1;have HV:=Lib.hid hv;obtain⟨D,hD⟩:∃D,D=18*2^k:=⟨_,rfl⟩;have hD2:D<=36864:=by have:=Nat.pow_le_pow_right (n:=2) (by omega) hk;omega
 have hD0:0<D:=by rw[hD];exact Nat.mul_pos (by omega) (Nat.pow_pos (by omega))
 have HD:=Lib.hid hD;have hw64:wrap64 (18*2^k)=(D:Int):=by
  have e:(18*2^k:Int)=(D:Int):=by rw[hD];push_cast;rfl
  rw[e];exact IntWalk.wrap64_in _ (by omega)
 clear d1 d2 hbl hv hD
 go_wp2_with (at_make;refine a_g _ rfl _ _ 181 rfl 5 .u8 1 Tryz.underlying181 info_u8 _ _ _ _ D rfl rfl hw64 hw64 (by omega) (by omega) ?_)
 intro w1 h1 b1 z1;obtain⟨g,hg⟩:∃g,g=w.heap.size:=⟨_,rfl⟩;rw[<-hg]at h1 ⊢;have HG:=Lib.hid hg;have hx1:=hx.below b1;have B1:=Lib.hid b1;clear hw64 hg z1 b1 hx
 go_wp2_with fail
 refine(j_t k (by omega) _).mono ?_;rintro e w2 ⟨C,cc,rfl,hC,b2⟩;have h2:=h1.below b2 h1.lt;have hx2:=hx1.below b2;have B2:Hid (Below w.heap.size w w2):=Lib.hid (B1.out.trans (b2.mono B1.out.size));clear h1 b2 hx1 B1
 go_wp2_with fail
 refine(q_y k g 0 D D n c cc A C _ v _ HD h2 (by simp) (by simp;omega) (Nat.le_refl _) (by omega) hx2 (by omega) HV hC).mono ?_;rintro e w3 ⟨rfl,h3,g3⟩;rw[w_h (by rw[b_6,List.length_replicate])]at h3;have B3:Hid (Below w.heap.size w w3):=Lib.hid (B2.out.trans ⟨g3.os,g3.tape,g3.output,g3.size,fun i hi=>g3.block i (Nat.lt_of_lt_of_le hi B2.out.size) (fun e=>by cases e;have:=HG.out;omega)⟩);have hvD:v<10^D:=by rw[HD.out];exact HV.out
 have HVD:=Lib.hid hvD;clear h2 g3 hx2 hC B2 HV HD hvD
 go_wp2
 go_loop [4] (fun s=>∃r j:Nat,s= .slice (some ⟨g,j,none⟩) r r/\0<r/\r<=D/\Hid (j+r=D)/\Hid (v<10^r)) (fun s=>dlen s)
 case atStart=>exact⟨D,0,rfl,hD0,Nat.le_refl _,Lib.hid (by omega),HVD⟩
 case round=>
  obtain⟨r,j,rfl,hr,hrD,HJ,HR⟩:=hrel;have hjD:j<D:=by have:=HJ.out;omega
  have cc:=h3.cell (j:=j) (by rw[b_6];exact hjD);rw[w_m HJ.out hr]at cc;have hl:=k_8 hr HR.out;have hend:Hid (nd v=r->str (dgs v)=str ((fw D v).drop j)):=Lib.hid fun e=>by rw[m_r HJ.out,dgs,e]
  have hlen:((fw D v).drop j).length=r:=by rw[List.length_drop,b_6];have:=HJ.out;omega
  have kc:=i_h (k:=j) (n:=r) (c:=r) h3 rfl hlen;by_cases h1:1<r
  ·by_cases h0:v<10^(r - 1)
   ·rw[hl.2 h0]at cc;have H0:=Lib.hid h0;have hr1:¬r=1:=by omega
    clear hl hlen kc h0
    go_wp2
    go_round
    case rel=>exact⟨r - 1,j+1,rfl,by omega,by omega,Lib.hid (by have:=HJ.out;omega),H0⟩
    case measure=>show r - 1<r;omega
   ·have hne:v / 10^(r - 1)%10≠0:=fun e=>h0 (hl.1 e);obtain⟨x,hx⟩:∃x,x=v / 10^(r - 1)%10:=⟨_,rfl⟩;rw[<-hx]at cc hne;have hx10:x<10:=by omega
    have t0:((((48+x:Nat):Int))==48)=false:=by rw[beq_eq_false_iff_ne];omega
    have t1:(((48:Int)+(x:Int))==48)=false:=by rw[beq_eq_false_iff_ne];omega
    have E:=hend.out (y_g hr HR.out (.inr (by omega)));rw[<-E]at kc;clear hl hlen h0 hx E
    go_wp2
    go_ret
    exact⟨rfl,B3.out⟩
  ·have E:=hend.out (y_g hr HR.out (.inl (by omega)));rw[<-E]at kc;clear hl hlen E
   go_wp2
   go_ret
   exact⟨rfl,B3.out⟩
end Go.Proofs.YtfhbdlegkdbmfaaGreat
end
namespace Go.Proofs.YtfhbdlegkdbmfaaGreat
section
open Go.RowKit
theorem o_e (K:Nat):(18446744073709551616:Nat)^K<=10^(20*K):=by
 rw[Nat.pow_mul];exact Nat.pow_le_pow_left (by omega) _
theorem j_x {w:World}{A:Option Addr}{n c v:Nat}(h:Nv w A n c v)(hn:n<=900):nd v<=20000:=by
 have h1:=h.lt;exact Nat.le_trans (nd_le (k:=20*n+1) (by omega) (Nat.lt_of_lt_of_le h1 (Nat.le_trans (o_e n) (x_c (by omega))))) (by omega)
end
section
open Go.RowKit
theorem ba (w:World)(o:Obj):Below w.heap.size w (w.alloc o):=(Below.refl _ _).alloc (Nat.le_refl _) o
end
section
open Go.RowKit
def Minus (s:ByteArray):Prop:=0<s.size/\nth (bys s) 0=45
instance (s:ByteArray):Decidable (Minus s):=by unfold Minus;exact inferInstance
def zstr (z:Int):ByteArray:=if z<0 then { data:=#[45] }++str (dgs z.natAbs)else str (dgs z.natAbs)
def ZPrPost (z:Int)(w:World)(e:Ending)(w':World):Prop:=e= .returned (.string (zstr z))/\Below w.heap.size w w'
theorem h_w {A:Option Addr}{n c:Nat}{s:Bool}{z:Int}{w:World}(h:Zv w s A n c z)(hn:n<=900):
  Calls Tryz.prog 100 #[.agg #[.bool s,.slice A n c]] w (ZPrPost z w):=by
 have z0:=zba w (.cells #[.bool s,.slice A n c] 31);obtain⟨w3,hw3⟩:∃w',w'=w.alloc (.cells #[.bool s,.slice A n c] 31):=⟨_,rfl⟩;have I:Ib w3 w.heap.size s A n c:=by rw[hw3];exact Ib.new _ _ _ _ _ _
 rw[<-hw3]at z0;have hX:=h.below z0;have HW:=Lib.hid hw3.symm;have HZ:=Lib.hid z0;have HI:=Lib.hid I;obtain⟨r,hr⟩:∃r,z.sign=r:=⟨_,rfl⟩;have HR:=Lib.hid hr;obtain⟨S,hS⟩:∃S,S=str (dgs z.natAbs):=⟨_,rfl⟩;have HS:=Lib.hid hS.symm;have hsz:S.size<=20000:=by
  rw[<-h_u,hS,q_k (p_9 z.natAbs).low,h_t];exact j_x h.abs.1 hn
 by_cases h0:z<0
 ·have hr0:r<0:=by rw[<-hr,Int.sign_eq_neg_one_of_neg h0];omega
  have hz:zstr z= { data:=#[45] }++S:=by unfold zstr;rw[if_pos h0,hS]
  have HZS:=Lib.hid hz;clear h hw3 hr hS z0 h0 hz I;obtain⟨i1,i2,i3,i4,i5⟩:=HI.out;go_enter Tryz.func100,Tryz.ntmps100
  go_wp2_with fail
  rw[HW.out];refine(g_m hX.abs.1 (by omega)).mono ?_;unfold PrPost;rw[HS.out];rintro e w4 ⟨rfl,B4⟩;clear i1 i2 i3 i4 i5;obtain⟨i1,i2,i3,i4,i5⟩:=HI.out.below B4;have hX4:=hX.below B4;clear hX
  go_wp2_with fail
  refine(f_8 hX4 (by omega) HR.out).mono ?_;rintro e w5 ⟨rfl,B5⟩;have P:=Lib.hid (zup HZ.out (zup B4 B5));clear hX4 B4 B5 i1 i2 i3 i4 i5
  go_wp2_with fail
  go_ret
  exact⟨by rw[HZS.out];rfl,P.out⟩
 ·have hr0:¬r<0:=by rw[<-hr];intro k;exact h0 (h_9 k)
  have hz:zstr z=S:=by unfold zstr;rw[if_neg h0,hS]
  have HZS:=Lib.hid hz;clear h hw3 hr hS z0 h0 hz I;obtain⟨i1,i2,i3,i4,i5⟩:=HI.out;go_enter Tryz.func100,Tryz.ntmps100
  go_wp2_with fail
  rw[HW.out];refine(g_m hX.abs.1 (by omega)).mono ?_;unfold PrPost;rw[HS.out];rintro e w4 ⟨rfl,B4⟩;clear i1 i2 i3 i4 i5;obtain⟨i1,i2,i3,i4,i5⟩:=HI.out.below B4;have hX4:=hX.below B4;clear hX
  go_wp2_with fail
  refine(f_8 hX4 (by omega) HR.out).mono ?_;rintro e w5 ⟨rfl,B5⟩;have P:=Lib.hid (zup HZ.out (zup B4 B5));clear hX4 B4 B5 i1 i2 i3 i4 i5
  go_wp2_with fail
  go_ret
  exact⟨by rw[HZS.out];rfl,P.out⟩
end
section
open Go.RowKit
theorem p_r {A:Option Addr}{n c:Nat}{s b:Bool}{N:Int}{w:World}(hn:Zv w s A n c N)(hnk:n<=1099511627776)(hb:decide (N=1)=b):
  Calls Tryz.prog 99 #[.agg #[.bool s,.slice A n c]] w (fun e w'=>e= .returned (.bool b)/\Below w.heap.size w w'):=by
 have hW:=Below.refl w.heap.size w;obtain⟨wp0,hwp0⟩:∃x,x=w.alloc (.cells #[.bool s,.slice A n c] 31):=⟨_,rfl⟩;have zp0:Below w.heap.size w wp0:=by rw[hwp0];exact zba _ _
 have sp0:wp0.heap.size=w.heap.size+1:=by rw[hwp0,World.size_alloc]
 have Ia:Ib wp0 w.heap.size s A n c:=by rw[hwp0];exact Ib.new _ _ _ _ _ _
 replace hn:=hn.below zp0;replace hW:=hW.trans (zp0.mono hW.size);have H_a:=Lib.hid Ia;clear Ia zp0;have HW:Hid ((w.alloc (.cells #[.bool s,.slice A n c] 31))=wp0):=Lib.hid (by rw[hwp0]);have lw_a:w.heap.size<=w.heap.size:=by omega
 clear hwp0 sp0;have HB:=Lib.hid hb;clear hb;go_enter Tryz.func99,Tryz.ntmps99
 obtain⟨a1,a2,a3,a4,a5⟩:=H_a.out
 go_wp2_with fail
 rw[HW.out];clear a1 a2 a3 a4 a5;refine region7 [] 4 [IsK (.agg #[.bool s,.slice A n c]),IsC 1 1,IsK (.bool b),IsK (.bool b)] (fun _ _ d _ _ h=>by cases d<;>exact h) (by kernel_rfl) (by kernel_rfl) (by kernel_rfl) ⟨c_4 _,t_o _ _,c_4 _,c_4 _,trivial⟩ ?_ ?_
 ·refine HopAll.cons rfl ?_ (HopAll.cons rfl ?_ (HopAll.cons rfl ?_ (HopAll.cons rfl ?_ HopAll.nil)))
  ·intro a w1 hB ho hp K hK;have e1:a.eval (.tmp 1)=(.pointer (some ⟨w.heap.size,0,none⟩)):=ho 1 (by kernel_rfl);obtain⟨u1,u2,u3,u4,u5⟩:=H_a.out.below hB;exact i_v (a_k rfl) rfl e1 (i_d u1 u2) (hK _ _ rfl (Below.refl _ _))
  ·intro a w1 hB ho hp K hK;refine f_3 (a_k rfl) rfl (args:=#[.int .i64 (1)]) (by simp only[List.map_toArray,List.map_cons,List.map_nil,b_2]) (ent7 (by kernel_rfl) _ _) (u_a 1 (by omega) (by omega) _) ?_;rintro e w2 ⟨s,A,n,c,rfl,p,k,B⟩;exact⟨_,rfl,hK _ _ ⟨s,A,n,c,rfl,p,by omega⟩ B⟩
  ·intro a w1 hB ho hp K hK;have e3:a.eval (.tmp 3)=(.agg #[.bool s,.slice A n c]):=hp 0 3 (by kernel_rfl);obtain⟨s4,A4,n4,c4,e4,p4,k4⟩:IsC 1 1 (a.eval (.tmp 4)) w1:=hp 1 4 (by kernel_rfl);refine f_3 (a_k rfl) rfl (args:=#[(.agg #[.bool s,.slice A n c]),(.agg #[.bool s4,.slice A4 n4 c4])]) (by simp only[List.map_toArray,List.map_cons,List.map_nil,b_2,e3,e4]) (ent7 (by kernel_rfl) _ _) (n_6 (hn.below hB) p4.zv (by omega) (by omega) HB.out) ?_;rintro e w2 ⟨rfl,B⟩;exact⟨_,rfl,hK _ _ rfl B⟩
  ·intro a w1 hB ho hp K hK;have e5:a.eval (.tmp 5)=(.bool b):=hp 2 5 (by kernel_rfl);refine e_f (a_k rfl) ?_ (hK (.bool b) _ rfl (Below.refl _ _));unfold execOp;simp only[b_2,e5];simp[go_sem]
 intro w21 B21;refine EndAll.one rfl fun vv hv=>?_;obtain rfl:vv=(.agg #[.bool s,.slice A n c]):=hv;refine EndAll.one rfl fun vv hv=>?_;obtain⟨s22,A22,n22,c22,rfl,p22,k22⟩:IsC 1 1 vv w21:=hv;refine EndAll.one rfl fun vv hv=>?_;obtain rfl:vv=(.bool b):=hv;refine EndAll.one rfl fun vv hv=>?_;obtain rfl:vv=(.bool b):=hv;refine EndAll.nil (l:=[]) rfl ?_;simp only[Act.put,lS,lZ,lC];replace H_a:=Lib.hid (H_a.out.below B21);replace hn:=hn.below B21;replace hW:=hW.trans (B21.mono hW.size);clear B21
 go_wp2_with fail
 go_ret
 exact⟨rfl,hW⟩
end
section
open Go.RowKit
theorem c_1 {w:World}{s:Bool}{A:Option Addr}{n c:Nat}{z:Int}(h:Zv w s A n c z)(hn:n<=900):(zstr z).size<=20001:=by
 have hsz:(str (dgs z.natAbs)).size<=20000:=by
  rw[<-h_u,q_k (p_9 z.natAbs).low,h_t];exact j_x h.abs.1 hn
 unfold zstr;split
 ·rw[ByteArray.size_append];have:({ data:=#[45] }:ByteArray).size=1:=rfl;omega
 ·omega
def qstr (q:Rat):ByteArray:=if q.den=1 then zstr q.num else zstr q.num++({ data:=#[47] }:ByteArray)++zstr (q.den:Int)
def QPrPost (q:Rat)(w:World)(e:Ending)(w':World):Prop:=e= .returned (.string (qstr q))/\Below w.heap.size w w'
theorem n_m {A B:Option Addr}{n c m d k:Nat}{s t:Bool}{N D:Int}{w:World}(hn:Zv w s A n c N)(hd:Zv w t B m d D)(hnk:n<=k)(hmk:m<=k)(h1:1<=k)(hk:k<=900)(h:(Rat.divInt N D).den=1):
  Calls Tryz.prog 39 #[.agg #[.bool s,.slice A n c,.bool t,.slice B m d]] w (QPrPost (Rat.divInt N D) w):=by
 have hW:=Below.refl w.heap.size w;obtain⟨wp0,hwp0⟩:∃x,x=w.alloc (.cells #[.bool s,.slice A n c,.bool t,.slice B m d] 42):=⟨_,rfl⟩;have zp0:Below w.heap.size w wp0:=by rw[hwp0];exact zba _ _
 have sp0:wp0.heap.size=w.heap.size+1:=by rw[hwp0,World.size_alloc]
 have Ia:Rb wp0 w.heap.size s A n c t B m d:=by rw[hwp0];exact Rb.new _ _ _ _ _ _ _ _ _ _
 replace hn:=hn.below zp0;replace hd:=hd.below zp0;replace hW:=hW.trans (zp0.mono hW.size);have H_a:=Lib.hid Ia;clear Ia zp0;have HW:Hid ((w.alloc (.cells #[.bool s,.slice A n c,.bool t,.slice B m d] 42))=wp0):=Lib.hid (by rw[hwp0]);have lw_a:w.heap.size<=w.heap.size:=by omega
 clear hwp0 sp0;obtain⟨q,hq⟩:∃q,Rat.divInt N D=q:=⟨_,rfl⟩;have HQ:=Lib.hid hq;rw[hq]at h;rw[hq];have HB:Hid (decide ((q.den:Int)=1)=true):=Lib.hid (by simp;omega);obtain⟨S1,hS1⟩:∃S,zstr q.num=S:=⟨_,rfl⟩;obtain⟨S2,hS2⟩:∃S,zstr (q.den:Int)=S:=⟨_,rfl⟩;have HS1:=Lib.hid hS1;have HS2:=Lib.hid hS2;have HS:Hid (qstr q=S1):=Lib.hid (by unfold qstr;rw[if_pos h,hS1]);clear hq hS1 hS2 h;go_enter Tryz.func39,Tryz.ntmps39
 obtain⟨a1,a2,a3,a4,a5,a6,a7,a8,a9⟩:=H_a.out
 go_wp2_with fail
 rw[HW.out];clear a1 a2 a3 a4 a5 a6 a7 a8 a9;refine(i_p (k:=k) hn hd hnk hmk h1 (by omega)).mono ?_;rintro e w21 ⟨s21,A21,n21,c21,t21,D21,m21,d21,rfl,pq,k21,l21,B21⟩;replace H_a:=Lib.hid (H_a.out.below B21);replace hn:=hn.below B21;replace hd:=hd.below B21;replace hW:=hW.trans (B21.mono hW.size);clear B21;rw[HQ.out]at pq;have O_a:=H_a;obtain⟨w22,hw22⟩:∃x,x=rput w21 w.heap.size s21 A21 n21 c21 t21 D21 m21 d21:=⟨_,rfl⟩;have HW22:Hid (((((w21.setCell ⟨w.heap.size,0,none⟩ (.bool s21)).setCell ⟨w.heap.size,1,none⟩ (.slice A21 n21 c21)).setCell ⟨w.heap.size,2,none⟩ (.bool t21)).setCell ⟨w.heap.size,3,none⟩ (.slice D21 m21 d21))=w22):=Lib.hid hw22.symm;have OI:=H_a.out;replace hn:=hn.rput (s':=s21) (A':=A21) (n':=n21) (c':=c21) (t':=t21) (B':=D21) (m':=m21) (d':=d21) OI;replace hd:=hd.rput (s':=s21) (A':=A21) (n':=n21) (c':=c21) (t':=t21) (B':=D21) (m':=m21) (d':=d21) OI;replace pq:=pq.rput (s':=s21) (A':=A21) (n':=n21) (c':=c21) (t':=t21) (B':=D21) (m':=m21) (d':=d21) OI;rw[<-hw22]at hn;rw[<-hw22]at hd;rw[<-hw22]at pq;replace hW:Below w.heap.size w w22:=by rw[hw22];exact b_9 hW lw_a
 replace H_a:Hid (Rb w22 w.heap.size s21 A21 n21 c21 t21 D21 m21 d21):=Lib.hid (by rw[hw22];exact OI.own);clear hw22 OI;clear hn hd;have hz1:S1.size<=9223372036854775806:=by have:=c_1 pq.nv (by omega);rw[HS1.out]at this;omega
 have hz2:S1.size+1+S2.size<=9223372036854775807:=by have k1:=c_1 pq.nv (by omega);have k2:=c_1 pq.dv (by omega);rw[HS1.out]at k1;rw[HS2.out]at k2;omega
 obtain⟨a1,a2,a3,a4,a5,a6,a7,a8,a9⟩:=O_a.out
 go_wp2_with fail
 rw[HW22.out];clear a1 a2 a3 a4 a5 a6 a7 a8 a9 O_a;refine(p_r pq.dv (by omega) HB.out).mono ?_;rintro e w23 ⟨rfl,B23⟩;replace H_a:=Lib.hid (H_a.out.below B23);replace pq:=pq.below B23;replace hW:=hW.trans (B23.mono hW.size);clear B23;have PR1:∀w:World,ZPrPost q.num w=fun e w'=>e= .returned (.string S1)/\Below w.heap.size w w':=fun w=>by unfold ZPrPost;rw[HS1.out]
 have PR2:∀w:World,ZPrPost (q.den:Int) w=fun e w'=>e= .returned (.string S2)/\Below w.heap.size w w':=fun w=>by unfold ZPrPost;rw[HS2.out]
 obtain⟨a1,a2,a3,a4,a5,a6,a7,a8,a9⟩:=H_a.out
 go_wp2_with fail
 clear a1 a2 a3 a4 a5 a6 a7 a8 a9;refine((PR1 _) ▸ h_w pq.nv (by omega)).mono ?_;rintro e w24 ⟨rfl,B24⟩;replace H_a:=Lib.hid (H_a.out.below B24);replace pq:=pq.below B24;replace hW:=hW.trans (B24.mono hW.size);clear B24
 go_wp2_with fail
 go_ret
 unfold QPrPost;rw[HS.out];exact⟨rfl,hW⟩
theorem n_l {A B:Option Addr}{n c m d k:Nat}{s t:Bool}{N D:Int}{w:World}(hn:Zv w s A n c N)(hd:Zv w t B m d D)(hnk:n<=k)(hmk:m<=k)(h1:1<=k)(hk:k<=900)(h:(Rat.divInt N D).den≠1):
  Calls Tryz.prog 39 #[.agg #[.bool s,.slice A n c,.bool t,.slice B m d]] w (QPrPost (Rat.divInt N D) w):=by
 have hW:=Below.refl w.heap.size w;obtain⟨wp0,hwp0⟩:∃x,x=w.alloc (.cells #[.bool s,.slice A n c,.bool t,.slice B m d] 42):=⟨_,rfl⟩;have zp0:Below w.heap.size w wp0:=by rw[hwp0];exact zba _ _
 have sp0:wp0.heap.size=w.heap.size+1:=by rw[hwp0,World.size_alloc]
 have Ia:Rb wp0 w.heap.size s A n c t B m d:=by rw[hwp0];exact Rb.new _ _ _ _ _ _ _ _ _ _
 replace hn:=hn.below zp0;replace hd:=hd.below zp0;replace hW:=hW.trans (zp0.mono hW.size);have H_a:=Lib.hid Ia;clear Ia zp0;have HW:Hid ((w.alloc (.cells #[.bool s,.slice A n c,.bool t,.slice B m d] 42))=wp0):=Lib.hid (by rw[hwp0]);have lw_a:w.heap.size<=w.heap.size:=by omega
 clear hwp0 sp0;obtain⟨q,hq⟩:∃q,Rat.divInt N D=q:=⟨_,rfl⟩;have HQ:=Lib.hid hq;rw[hq]at h;rw[hq];have HB:Hid (decide ((q.den:Int)=1)=false):=Lib.hid (by simp;omega);obtain⟨S1,hS1⟩:∃S,zstr q.num=S:=⟨_,rfl⟩;obtain⟨S2,hS2⟩:∃S,zstr (q.den:Int)=S:=⟨_,rfl⟩;have HS1:=Lib.hid hS1;have HS2:=Lib.hid hS2;have HS:Hid (qstr q=S1++({ data:=#[47] }:ByteArray)++S2):=Lib.hid (by unfold qstr;rw[if_neg h,hS1,hS2]);clear hq hS1 hS2 h;go_enter Tryz.func39,Tryz.ntmps39
 obtain⟨a1,a2,a3,a4,a5,a6,a7,a8,a9⟩:=H_a.out
 go_wp2_with fail
 rw[HW.out];clear a1 a2 a3 a4 a5 a6 a7 a8 a9;refine(i_p (k:=k) hn hd hnk hmk h1 (by omega)).mono ?_;rintro e w21 ⟨s21,A21,n21,c21,t21,D21,m21,d21,rfl,pq,k21,l21,B21⟩;replace H_a:=Lib.hid (H_a.out.below B21);replace hn:=hn.below B21;replace hd:=hd.below B21;replace hW:=hW.trans (B21.mono hW.size);clear B21;rw[HQ.out]at pq;have O_a:=H_a;obtain⟨w22,hw22⟩:∃x,x=rput w21 w.heap.size s21 A21 n21 c21 t21 D21 m21 d21:=⟨_,rfl⟩;have HW22:Hid (((((w21.setCell ⟨w.heap.size,0,none⟩ (.bool s21)).setCell ⟨w.heap.size,1,none⟩ (.slice A21 n21 c21)).setCell ⟨w.heap.size,2,none⟩ (.bool t21)).setCell ⟨w.heap.size,3,none⟩ (.slice D21 m21 d21))=w22):=Lib.hid hw22.symm;have OI:=H_a.out;replace hn:=hn.rput (s':=s21) (A':=A21) (n':=n21) (c':=c21) (t':=t21) (B':=D21) (m':=m21) (d':=d21) OI;replace hd:=hd.rput (s':=s21) (A':=A21) (n':=n21) (c':=c21) (t':=t21) (B':=D21) (m':=m21) (d':=d21) OI;replace pq:=pq.rput (s':=s21) (A':=A21) (n':=n21) (c':=c21) (t':=t21) (B':=D21) (m':=m21) (d':=d21) OI;rw[<-hw22]at hn;rw[<-hw22]at hd;rw[<-hw22]at pq;replace hW:Below w.heap.size w w22:=by rw[hw22];exact b_9 hW lw_a
 replace H_a:Hid (Rb w22 w.heap.size s21 A21 n21 c21 t21 D21 m21 d21):=Lib.hid (by rw[hw22];exact OI.own);clear hw22 OI;clear hn hd;have hz1:S1.size<=9223372036854775806:=by have:=c_1 pq.nv (by omega);rw[HS1.out]at this;omega
 have hz2:S1.size+1+S2.size<=9223372036854775807:=by have k1:=c_1 pq.nv (by omega);have k2:=c_1 pq.dv (by omega);rw[HS1.out]at k1;rw[HS2.out]at k2;omega
 obtain⟨a1,a2,a3,a4,a5,a6,a7,a8,a9⟩:=O_a.out
 go_wp2_with fail
 rw[HW22.out];clear a1 a2 a3 a4 a5 a6 a7 a8 a9 O_a;refine(p_r pq.dv (by omega) HB.out).mono ?_;rintro e w23 ⟨rfl,B23⟩;replace H_a:=Lib.hid (H_a.out.below B23);replace pq:=pq.below B23;replace hW:=hW.trans (B23.mono hW.size);clear B23;have PR1:∀w:World,ZPrPost q.num w=fun e w'=>e= .returned (.string S1)/\Below w.heap.size w w':=fun w=>by unfold ZPrPost;rw[HS1.out]
 have PR2:∀w:World,ZPrPost (q.den:Int) w=fun e w'=>e= .returned (.string S2)/\Below w.heap.size w w':=fun w=>by unfold ZPrPost;rw[HS2.out]
 obtain⟨a1,a2,a3,a4,a5,a6,a7,a8,a9⟩:=H_a.out
 go_wp2_with fail
 clear a1 a2 a3 a4 a5 a6 a7 a8 a9;refine region7 [] 9 [IsK (.pointer (some ⟨w.heap.size,0,none⟩)),IsK (.agg #[.bool s21,.slice A21 n21 c21]),IsK (.string S1),IsK (.string (S1++({ data:=#[47] }:ByteArray))),IsK (.pointer (some ⟨w.heap.size,2,none⟩)),IsK (.agg #[.bool t21,.slice D21 m21 d21]),IsK (.string S2),IsK (.string (S1++({ data:=#[47] }:ByteArray)++S2)),IsK (.string (S1++({ data:=#[47] }:ByteArray)++S2))] (fun _ _ d _ _ h=>by cases d<;>exact h) (by kernel_rfl) (by kernel_rfl) (by kernel_rfl) ⟨c_4 _,c_4 _,c_4 _,c_4 _,c_4 _,c_4 _,c_4 _,c_4 _,c_4 _,trivial⟩ ?_ ?_
 ·refine HopAll.cons rfl ?_ (HopAll.cons rfl ?_ (HopAll.cons rfl ?_ (HopAll.cons rfl ?_ (HopAll.cons rfl ?_ (HopAll.cons rfl ?_ (HopAll.cons rfl ?_ (HopAll.cons rfl ?_ (HopAll.cons rfl ?_ HopAll.nil))))))))
  ·intro a w1 hB ho hp K hK;have e1:a.eval (.tmp 1)=(.pointer (some ⟨w.heap.size,0,none⟩)):=ho 1 (by kernel_rfl);refine e_f (a_k rfl) ?_ (hK (.pointer (some ⟨w.heap.size,0,none⟩)) _ rfl (Below.refl _ _));unfold execOp;simp only[e1];simp[go_sem]
  ·intro a w1 hB ho hp K hK;have e14:a.eval (.tmp 14)=(.pointer (some ⟨w.heap.size,0,none⟩)):=hp 0 14 (by kernel_rfl);obtain⟨u1,u2,u3,u4,u5,u6,u7,u8,u9⟩:=H_a.out.below hB;exact i_v (a_k rfl) rfl e14 (i_d u1 u2) (hK _ _ rfl (Below.refl _ _))
  ·intro a w1 hB ho hp K hK;have e15:a.eval (.tmp 15)=(.agg #[.bool s21,.slice A21 n21 c21]):=hp 1 15 (by kernel_rfl);refine f_3 (a_k rfl) rfl (args:=#[(.agg #[.bool s21,.slice A21 n21 c21])]) (by simp only[List.map_toArray,List.map_cons,List.map_nil,b_2,e15]) (ent7 (by kernel_rfl) _ _) ((PR1 _) ▸ h_w (pq.below hB).nv (by omega)) ?_;rintro e w2 ⟨rfl,B⟩;exact⟨_,rfl,hK _ _ rfl B⟩
  ·intro a w1 hB ho hp K hK;have e16:a.eval (.tmp 16)=(.string S1):=hp 2 16 (by kernel_rfl);refine e_f (a_k rfl) ?_ (hK (.string (S1++({ data:=#[47] }:ByteArray))) _ rfl (Below.refl _ _));unfold execOp;simp only[b_2,e16];simp[go_sem,hz1]
  ·intro a w1 hB ho hp K hK;have e1:a.eval (.tmp 1)=(.pointer (some ⟨w.heap.size,0,none⟩)):=ho 1 (by kernel_rfl);refine e_f (a_k rfl) ?_ (hK (.pointer (some ⟨w.heap.size,2,none⟩)) _ rfl (Below.refl _ _));unfold execOp;simp only[e1];simp[go_sem]
  ·intro a w1 hB ho hp K hK;have e18:a.eval (.tmp 18)=(.pointer (some ⟨w.heap.size,2,none⟩)):=hp 4 18 (by kernel_rfl);obtain⟨u1,u2,u3,u4,u5,u6,u7,u8,u9⟩:=H_a.out.below hB;exact i_v (a_k rfl) rfl e18 (i_d u3 u4) (hK _ _ rfl (Below.refl _ _))
  ·intro a w1 hB ho hp K hK;have e19:a.eval (.tmp 19)=(.agg #[.bool t21,.slice D21 m21 d21]):=hp 5 19 (by kernel_rfl);refine f_3 (a_k rfl) rfl (args:=#[(.agg #[.bool t21,.slice D21 m21 d21])]) (by simp only[List.map_toArray,List.map_cons,List.map_nil,b_2,e19]) (ent7 (by kernel_rfl) _ _) ((PR2 _) ▸ h_w (pq.below hB).dv (by omega)) ?_;rintro e w2 ⟨rfl,B⟩;exact⟨_,rfl,hK _ _ rfl B⟩
  ·intro a w1 hB ho hp K hK;have e17:a.eval (.tmp 17)=(.string (S1++({ data:=#[47] }:ByteArray))):=hp 3 17 (by kernel_rfl);have e20:a.eval (.tmp 20)=(.string S2):=hp 6 20 (by kernel_rfl);refine e_f (a_k rfl) ?_ (hK (.string (S1++({ data:=#[47] }:ByteArray)++S2)) _ rfl (Below.refl _ _));unfold execOp;simp only[b_2,e17,e20];simp[go_sem,hz2]
  ·intro a w1 hB ho hp K hK;have e21:a.eval (.tmp 21)=(.string (S1++({ data:=#[47] }:ByteArray)++S2)):=hp 7 21 (by kernel_rfl);refine e_f (a_k rfl) ?_ (hK (.string (S1++({ data:=#[47] }:ByteArray)++S2)) _ rfl (Below.refl _ _));unfold execOp;simp only[b_2,e21];simp[go_sem]
 intro w24 B24;refine EndAll.one rfl fun vv hv=>?_;obtain rfl:vv=(.pointer (some ⟨w.heap.size,0,none⟩)):=hv;refine EndAll.one rfl fun vv hv=>?_;obtain rfl:vv=(.agg #[.bool s21,.slice A21 n21 c21]):=hv;refine EndAll.one rfl fun vv hv=>?_;obtain rfl:vv=(.string S1):=hv;refine EndAll.one rfl fun vv hv=>?_;obtain rfl:vv=(.string (S1++({ data:=#[47] }:ByteArray))):=hv;refine EndAll.one rfl fun vv hv=>?_;obtain rfl:vv=(.pointer (some ⟨w.heap.size,2,none⟩)):=hv;refine EndAll.one rfl fun vv hv=>?_;obtain rfl:vv=(.agg #[.bool t21,.slice D21 m21 d21]):=hv;refine EndAll.one rfl fun vv hv=>?_;obtain rfl:vv=(.string S2):=hv;refine EndAll.one rfl fun vv hv=>?_;obtain rfl:vv=(.string (S1++({ data:=#[47] }:ByteArray)++S2)):=hv;refine EndAll.one rfl fun vv hv=>?_;obtain rfl:vv=(.string (S1++({ data:=#[47] }:ByteArray)++S2)):=hv;refine EndAll.nil (l:=[]) rfl ?_;simp only[Act.put,lS,lZ,lC];replace H_a:=Lib.hid (H_a.out.below B24);replace pq:=pq.below B24;replace hW:=hW.trans (B24.mono hW.size);clear B24
 go_wp2_with fail
 go_ret
 unfold QPrPost;rw[HS.out];exact⟨rfl,hW⟩
theorem r_t {A B:Option Addr}{n c m d k:Nat}{s t:Bool}{N D:Int}{w:World}(hn:Zv w s A n c N)(hd:Zv w t B m d D)(hnk:n<=k)(hmk:m<=k)(h1:1<=k)(hk:k<=900):
  Calls Tryz.prog 39 #[.agg #[.bool s,.slice A n c,.bool t,.slice B m d]] w (QPrPost (Rat.divInt N D) w):=by
 by_cases h:(Rat.divInt N D).den=1
 ·exact n_m hn hd hnk hmk h1 hk h
 ·exact n_l hn hd hnk hmk h1 hk h
end
end Go.Proofs.YtfhbdlegkdbmfaaGreat
