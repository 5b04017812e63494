/- Ph22 -/
import Derived.Test.YtgohglhefhocgaaGreatPh14
set_option linter.unusedVariables false
set_option linter.unusedSimpArgs false
set_option linter.unusedSectionVars false
set_option maxRecDepth 100000
set_option maxHeartbeats 8000000
namespace Go.Proofs.YtgohglhefhocgaaGreat
section
namespace DT
variable {R C n W:Nat}{M N G A F F':Mx}{u v:Nat→Int}{p:Nat→Option Nat}
theorem h_0 {n:Nat}{f:Nat→Int}{D:Nat}(h:∀k,k<n→(f k).natAbs≤D):(sumN n f).natAbs≤n*D:=by
 induction n with
 |zero=>simp[sumN]
 |succ n ih=>
  have h1:=ih fun k hk=>h k (by omega);have h2:=h n (by omega);have h3:=Int.natAbs_add_le (sumN n f) (f n);show(sumN n f+f n).natAbs≤_
  rw[Nat.succ_mul];omega
theorem q_a (k:Nat):(sgn k).natAbs=1:=by
 have h:=congrArg Int.natAbs (l_d k);rw[Int.natAbs_mul]at h;have h1:(1:Int).natAbs=1:=rfl;rw[h1]at h;exact Nat.dvd_one.mp ⟨_,h.symm⟩
theorem det_abs:∀(n:Nat) (M:Mx) (D:Nat),(∀i j,i<n→j<n→(M i j).natAbs≤D)→(det n M).natAbs≤(n*D)^n
 |0,M,D,h=>by simp[det]
 |n+1,M,D,h=>by
  rw[b_j];refine Nat.le_trans (h_0 (D:=D*(n*D)^n) fun k hk=>?_) ?_
  ·rw[Int.natAbs_mul,Int.natAbs_mul,q_a,Nat.one_mul];exact Nat.mul_le_mul (h 0 k (by omega) hk) (det_abs n _ D fun i j hi hj=>h _ _ (by omega) (k_9 hj))
  ·rw[Nat.pow_succ,←Nat.mul_assoc,Nat.mul_comm ((n+1)*D)];exact Nat.mul_le_mul_right _ (Nat.pow_le_pow_left (Nat.mul_le_mul_right D (by omega)) n)
theorem k_j (n:Nat)(B:Mx)(u:Nat→Int){l:Nat}(hl:l<n+1):sumN (n+1) (fun s=>B l s*det (n+1) (setc B s u))=det (n+1) B*u l:=by
 have e:∀s,s<n+1→B l s*det (n+1) (setc B s u)=sumN (n+1) fun a=>u a*(B l s*cof n B a s):=fun s hs=>by
  have h:=m_t n (setc B s u) (j:=s) (k:=s) hs hs;rw[if_pos rfl]at h;rw[←h,←b_v];refine sum_ext fun a ha=>?_;have h1:setc B s u a s=u a:=by unfold setc;rw[if_pos rfl]
  have h2:cof n (setc B s u) a s=cof n B a s:=by
   unfold cof;rw[det_ext (M:=minor2 (setc B s u) a s) (N:=minor2 B a s) fun i j _ _=>by unfold minor2 setc;rw[if_neg (h_3 s j)]]
  rw[h1,h2];grind
 rw[sum_ext e,i_x];rw[sum_one hl fun a ha hne=>by
  rw[b_v,e_4 n B ha hl (Ne.symm hne),Int.mul_zero]]
 rw[b_v,e_e n B hl,Int.mul_comm]
theorem i_6 {n:Nat}{f:Nat→Int}(h:∀k,k<n→0<f k):0<prodN n f:=by
 induction n with
 |zero=>show(0:Int)<1;decide
 |succ n ih=>exact Int.mul_pos (ih fun k hk=>h k (by omega)) (h n (by omega))
theorem q_s {n i:Nat}{f:Nat→Int}(h:∀k,k<n→0<f k)(hi:i<n):f i≤prodN n f:=by
 induction n with
 |zero=>omega
 |succ n ih=>
  show f i≤prodN n f*f n
  have hp:=i_6 (n:=n) fun k hk=>h k (by omega);have hn:=h n (by omega);by_cases e:i=n
  ·subst e
   have:=Int.mul_le_mul_of_nonneg_right (show(1:Int)≤prodN i f by omega) (Int.le_of_lt hn);omega
  ·have h1:=ih (fun k hk=>h k (by omega)) (by omega)
   have:=Int.mul_le_mul_of_nonneg_left (show(1:Int)≤f n by omega) (Int.le_of_lt hp);omega
theorem Steps.tri {r:Nat}(h:Steps r W G)(hn:∀l,l<r→fst W (G l)<W){i j:Nat}(hi:i<r)(hj:j<i):G i (fst W (G j))=0:=
 fst_zero (C:=W) (h j i hj hi (hn i hi))
theorem Steps.det {r:Nat}(h:Steps r W G)(hn:∀l,l<r→fst W (G l)<W):det r (fun i j=>G i (fst W (G j)))=prodN r fun i=>G i (fst W (G i)):=
 det_tri _ _ fun i j hi hj hji=>h.tri hn hi hji
theorem j_a {r:Nat}(h:Steps r W G)(hn:∀l,l<r→fst W (G l)<W)(e:∀v,Lat r W G v↔Lat R W A v){D:Nat}(hD:∀f q:Nat→Nat,(∀i,i<r→f i<R)→(∀i,i<r→q i<W)→(DT.det r fun i j=>A (f i) (q j)).natAbs≤D):
  ∀c:Nat→Nat,(∀i,i<r→c i<W)→(DT.det r (fun i j=>G i (c j))).natAbs≤D:=by
 let q:Nat→Nat:=fun j=>fst W (G j)
 have hX:∀i,∃x:Nat→Int,i<r→∀j,j<W→G i j=sumN R fun l=>x l*A l j:=fun i=>by
  by_cases hi:i<r
  ·obtain⟨x,hx⟩:=(e (G i)).mp (Lat.row _ _ _ hi);exact⟨x,fun _=>hx⟩
  ·exact⟨fun _=>0,fun h=>absurd h hi⟩
 obtain⟨X,hX2⟩:=Classical.axiomOfChoice hX;have hs:Som r G r q:=⟨fun i=>i,⟨fun i _=>by omega,fun i hi=>hi⟩,by
  rw[h.det hn];exact prod_ne fun k hk=>fst_ne (hn k hk)⟩
 obtain⟨f,hf,hne⟩:=Som.of (d:=1) (by decide) (X:=X) (N:=A) (S:=R) (fun i j hi hj=>by rw[Int.one_mul];exact hX2 i hi _ (hn j hj)) hs;have hZ:∀i,∃x:Nat→Int,i<r→∀j,j<W→A (f i) j=sumN r fun l=>x l*G l j:=fun i=>by
  by_cases hi:i<r
  ·obtain⟨x,hx⟩:=(e (A (f i))).mpr (Lat.row _ _ _ (hf.lt i hi));exact⟨x,fun _=>hx⟩
  ·exact⟨fun _=>0,fun h=>absurd h hi⟩
 obtain⟨Z,hZ2⟩:=Classical.axiomOfChoice hZ;have hmul:∀c:Nat→Nat,(∀i,i<r→c i<W)→DT.det r (fun i j=>A (f i) (c j))=DT.det r Z*DT.det r (fun i j=>G i (c j)):=fun c hc=>by
  rw[←det_mul];exact det_ext fun i j hi hj=>hZ2 i hi _ (hc j hj)
 have hZne:DT.det r Z≠0:=fun e0=>hne (by rw[hmul q hn,e0,Int.zero_mul]);intro c hc;have h1:=hD f c hf.lt hc;rw[hmul c hc,Int.natAbs_mul]at h1;exact Nat.le_trans (Nat.le_mul_of_pos_left _ (by omega)) h1
theorem f_q {n:Nat}(h:Steps (n+1) W G)(hn:∀l,l<n+1→fst W (G l)<W){v:Nat→Int}(hv:Lat (n+1) W G v){c:Nat}(hc:c<W):
  (prodN (n+1) fun i=>G i (fst W (G i)))*v c=sumN (n+1) fun s=>v (fst W (G s))*DT.det (n+1) fun i j=>G i (if j=s then c else fst W (G j)):=by
 obtain⟨y,hy⟩:=hv;have e:∀s,DT.det (n+1) (setc (fun i j=>G i (fst W (G j))) s fun i=>G i c)=DT.det (n+1) fun i j=>G i (if j=s then c else fst W (G j)):=fun s=>det_ext fun i j _ _=>by
  unfold setc;split<;>rfl
 rw[hy c hc,←h.det hn,←b_v];rw[sum_ext fun l hl=>show DT.det (n+1) (fun i j=>G i (fst W (G j)))*(y l*G l c)=sumN (n+1) fun s=>y l*G l (fst W (G s))*DT.det (n+1) fun i j=>G i (if j=s then c else fst W (G j)) by
  have h1:=k_j n (fun i j=>G i (fst W (G j))) (fun i=>G i c) hl;rw[Int.mul_left_comm,←h1,←b_v];exact sum_ext fun s hs=>by rw[e s];grind]
 rw[i_x];refine sum_ext fun s hs=>?_;rw[hy _ (hn s hs),sum_mul']
theorem herm_le {r:Nat}(h:Herm r W G)(hn:∀l,l<r→fst W (G l)<W)(e:∀v,Lat r W G v↔Lat R W A v){D:Nat}(hD:∀f q:Nat→Nat,(∀i,i<r→f i<R)→(∀i,i<r→q i<W)→(det r fun i j=>A (f i) (q j)).natAbs≤D):
  ∀l j,l<r→j<W→(G l j).natAbs≤r*D:=by
 intro l c hl hc;obtain⟨n,rfl⟩:∃n,r=n+1:=⟨r - 1,by omega⟩;have hpos:∀k,k<n+1→0<G k (fst W (G k)):=fun k hk=>h.pos k hk (hn k hk);have hp:=i_6 (n:=n+1) hpos;have hle:=j_a h.steps hn e hD;have hcr:=f_q h.steps hn (Lat.row _ _ _ hl) hc;have hb:∀s,s<n+1→(G l (fst W (G s))*det (n+1) fun i j=>G i (if j=s then c else fst W (G j))).natAbs≤(prodN (n+1) fun i=>G i (fst W (G i))).natAbs*D:=fun s hs=>by
  rw[Int.natAbs_mul];refine Nat.mul_le_mul ?_ (hle _ fun i hi=>by split;exact hc;exact hn i hi);have h1:G s (fst W (G s))≤_:=q_s (n:=n+1) (f:=fun i=>G i (fst W (G i))) hpos hs;rcases Nat.lt_trichotomy s l with h2|h2|h2
  ·rw[h.steps.tri hn hl h2];simp
  ·subst h2;have:=hpos s hs;omega
  ·have h3:=h.red s hs (hn s hs) l h2;omega
 have h6:=h_0 hb;rw[←hcr,Int.natAbs_mul,Nat.mul_left_comm]at h6;exact Nat.le_of_mul_le_mul_left h6 (by omega)
theorem s_8 {r:Nat}(h:Steps r W G)(hn:∀l,l<r→fst W (G l)<W)(e:∀v,Lat r W G v↔Lat R W A v){D X:Nat}(hD:∀f q:Nat→Nat,(∀i,i<r→f i<R)→(∀i,i<r→q i<W)→(det r fun i j=>A (f i) (q j)).natAbs≤D)
  {v:Nat→Int} (hv:Lat r W G v) (hX:∀l,l<r→(v (fst W (G l))).natAbs≤X) {j:Nat} (hj:j<W):(v j).natAbs≤r*(X*D):=by
 rcases Nat.eq_zero_or_pos r with h0|h0
 ·subst h0;obtain⟨x,hx⟩:=hv;rw[hx j hj];simp[sumN]
 ·obtain⟨n,rfl⟩:∃n,r=n+1:=⟨r - 1,by omega⟩;have hle:=j_a h hn e hD;have hcr:=f_q h hn hv hj;have h6:=h_0 (D:=X*D) (fun s hs=>show(v (fst W (G s))*det (n+1) fun i k=>G i (if k=s then j else fst W (G k))).natAbs≤X*D by
   rw[Int.natAbs_mul];exact Nat.mul_le_mul (hX s hs) (hle _ fun i hi=>by split;exact hj;exact hn i hi))
  rw[←hcr,Int.natAbs_mul]at h6;have hp:(prodN (n+1) fun i=>G i (fst W (G i)))≠0:=prod_ne fun k hk=>fst_ne (hn k hk);exact Nat.le_trans (Nat.le_mul_of_pos_left _ (by omega)) h6
theorem lat_both {S:Nat}(h1:∀i,i<R→Lat S W N (M i))(h2:∀i,i<S→Lat R W M (N i))(v:Nat→Int):Lat R W M v↔Lat S W N v:=⟨Lat.within h1,Lat.within h2⟩
def upd (F:Mx)(a:Nat)(f:Nat→Int):Mx:=fun i=>if i=a then f else F i
theorem upd_self (F:Mx)(a:Nat)(f:Nat→Int):upd F a f a=f:=by unfold upd;rw[if_pos rfl]
theorem upd_ne {F:Mx}{a i:Nat}{f:Nat→Int}(h:i≠a):upd F a f i=F i:=by unfold upd;rw[if_neg h]
theorem upd_id (F:Mx)(a:Nat):upd F a (F a)=F:=by
 funext i
 by_cases h:i=a
 ·subst h;rw[upd_self]
 ·rw[upd_ne h]
theorem upd_upd (F:Mx)(a:Nat)(f g:Nat→Int):upd (upd F a f) a g=upd F a g:=by
 funext i
 by_cases h:i=a
 ·subst h;rw[upd_self,upd_self]
 ·rw[upd_ne h,upd_ne h,upd_ne h]
theorem q_9 {a b:Nat}(ha:a<n)(hb:b<n)(hne:b≠a)(q:Int)(v:Nat→Int):Lat n W (upd F a fun j=>F a j - q*F b j) v↔Lat n W F v:=by
 refine lat_both (fun i hi=>?_) (fun i hi=>?_) v
 ·by_cases e:i=a
  ·subst e;rw[upd_self];exact(Lat.row n W F hi).sub ((Lat.row n W F hb).smul q)
  ·rw[upd_ne e];exact Lat.row n W F hi
 ·by_cases e:i=a
  ·subst e;have h1:=Lat.row n W (upd F i fun j=>F i j - q*F b j) hi;have h2:=(Lat.row n W (upd F i fun j=>F i j - q*F b j) hb).smul q;rw[upd_self]at h1;rw[upd_ne hne]at h2;exact(h1.add h2).ext fun j _=>by omega
  ·have h1:=Lat.row n W (upd F a fun j=>F a j - q*F b j) hi;rw[upd_ne e]at h1;exact h1
theorem q_8 {a b:Nat}(ha:a<n)(hb:b<n)(hne:b≠a){x y s t:Int}(h:x*s+y*t=1)(v:Nat→Int):Lat n W (upd (upd F b fun j=>x*F b j+y*F a j) a fun j=>s*F a j - t*F b j) v↔Lat n W F v:=by
 have hR:∀ {i:Nat},i<n→Lat n W F (F i):=fun hi=>Lat.row n W F hi;have ea:upd (upd F b fun j=>x*F b j+y*F a j) a (fun j=>s*F a j - t*F b j) a=fun j=>s*F a j - t*F b j:=upd_self _ _ _;have eb:upd (upd F b fun j=>x*F b j+y*F a j) a (fun j=>s*F a j - t*F b j) b=fun j=>x*F b j+y*F a j:=by rw[upd_ne hne,upd_self]
 refine lat_both (fun i hi=>?_) (fun i hi=>?_) v
 ·by_cases e:i=a
  ·subst e;rw[ea];exact((hR ha).smul s).sub ((hR hb).smul t)
  ·by_cases e2:i=b
   ·subst e2;rw[eb];exact((hR hb).smul x).add ((hR ha).smul y)
   ·rw[upd_ne e,upd_ne e2];exact hR hi
 ·obtain⟨G,hG⟩:∃G,upd (upd F b fun j=>x*F b j+y*F a j) a (fun j=>s*F a j - t*F b j)=G:=⟨_,rfl⟩;rw[hG]at ea eb ⊢;have h1:=Lat.row n W G ha;have h2:=Lat.row n W G hb;rw[ea]at h1;rw[eb]at h2;by_cases e:i=a
  ·subst e;exact((h2.smul t).add (h1.smul x)).ext fun j _=>by grind
  ·by_cases e2:i=b
   ·subst e2;exact((h2.smul s).sub (h1.smul y)).ext fun j _=>by grind
   ·have h3:=Lat.row n W G hi;rw[←hG,upd_ne e,upd_ne e2,hG]at h3;exact h3
theorem r_b {a:Nat}(ha:a<n)(v:Nat→Int):Lat n W (upd F a fun j=>- F a j) v↔Lat n W F v:=by
 refine lat_both (fun i hi=>?_) (fun i hi=>?_) v
 ·by_cases e:i=a
  ·subst e;rw[upd_self];exact((Lat.row n W F hi).smul (-1)).ext fun j _=>by omega
  ·rw[upd_ne e];exact Lat.row n W F hi
 ·have h1:=Lat.row n W (upd F a fun j=>- F a j) hi;by_cases e:i=a
  ·subst e;rw[upd_self]at h1;exact(h1.smul (-1)).ext fun j _=>by omega
  ·rw[upd_ne e]at h1;exact h1
structure Tri (n W:Nat) (F:Mx) (p:Nat→Option Nat):Prop where
 lt:∀k a,k<W→p k=some a→a<n
 inj:∀k l a,k<W→l<W→p k=some a→p l=some a→k=l
 zero:∀k a,k<W→p k=some a→∀j,j<k→F a j=0
 pos:∀k a,k<W→p k=some a→0<F a k
def Rst (n W:Nat)(F:Mx)(p:Nat→Option Nat):Prop:=∀a,a<n→(∀k,k<W→p k≠some a)→∀j,j<W→F a j=0
def Rdc (m W:Nat)(F:Mx)(p:Nat→Option Nat):Prop:=∀k l a b,m≤k→k<l→l<W→p k=some a→p l=some b→0≤F a l∧F a l<F b l
theorem Tri.ext (h:Tri n W F p)(e:∀k a,k<W→p k=some a→F' a=F a):Tri n W F' p:=
 ⟨h.lt,h.inj,fun k a hk ha j hj=>by rw[e k a hk ha];exact h.zero k a hk ha j hj,fun k a hk ha=>by rw[e k a hk ha];exact h.pos k a hk ha⟩
def tk (F:Mx)(p:Nat→Option Nat)(k:Nat)(f:Nat→Int):Nat→Int:=match p k with|none=>f|some b=>fun j=>f j - f k / F b k*F b j
def rd (F:Mx)(p:Nat→Option Nat)(lo:Nat):Nat→(Nat→Int)→Nat→Int
 |0,f=>f
 |m+1,f=>tk F p (lo+m) (rd F p lo m f)
theorem tk_none {k:Nat}{f:Nat→Int}(h:p k=none):tk F p k f=f:=by unfold tk;rw[h]
theorem tk_some {k b:Nat}{f:Nat→Int}(h:p k=some b):tk F p k f=fun j=>f j - f k / F b k*F b j:=by unfold tk;rw[h]
theorem tk_zero {k:Nat}{f:Nat→Int}(h:f k=0):tk F p k f=f:=by
 unfold tk;split
 ·rfl
 ·rename_i b _;funext j
  rw[h,Int.zero_ediv,Int.zero_mul,Int.sub_zero]
theorem Tri.tk_low (h:Tri n W F p){k:Nat}(hk:k<W){f:Nat→Int}{j:Nat}(hj:j<k):tk F p k f j=f j:=by
 cases e:p k with
 |none=>rw[tk_none e]
 |some b=>
  rw[tk_some e];dsimp only;rw[h.zero k b hk e j hj,Int.mul_zero,Int.sub_zero]
theorem Tri.tk_at (h:Tri n W F p){k b:Nat}(hk:k<W)(hb:p k=some b)(f:Nat→Int):0≤tk F p k f k∧tk F p k f k<F b k:=by
 have hp:=h.pos k b hk hb;rw[tk_some hb];dsimp only;have h1:=Int.emod_nonneg (f k) (show F b k≠0 by omega);have h2:=Int.emod_lt_of_pos (f k) hp;have h3:=Int.emod_def (f k) (F b k);have h4:=Int.mul_comm (F b k) (f k / F b k);omega
theorem Tri.rd_low (h:Tri n W F p){lo:Nat}{f:Nat→Int}:∀m,lo+m≤W→∀j,j<lo→rd F p lo m f j=f j
 |0,_,j,_=>rfl
 |m+1,hm,j,hj=>by
  show tk F p (lo+m) _ j=_
  rw[h.tk_low (by omega) (by omega),h.rd_low m (by omega) j hj]
theorem Tri.rd_red (h:Tri n W F p){lo:Nat}{f:Nat→Int}:∀m,lo+m≤W→∀k b,lo≤k→k<lo+m→p k=some b→0≤rd F p lo m f k∧rd F p lo m f k<F b k
 |0,_,k,b,h1,h2,_=>by omega
 |m+1,hm,k,b,h1,h2,hb=>by
  show 0≤tk F p (lo+m) _ k∧tk F p (lo+m) _ k<_
  by_cases e:k=lo+m
  ·subst e;exact h.tk_at (by omega) hb _
  ·rw[h.tk_low (by omega) (by omega)];exact h.rd_red m (by omega) k b h1 (by omega) hb
theorem Tri.rd_zero (h:Tri n W F p){lo z:Nat}{f:Nat→Int}(hz:∀j,j<z→f j=0):∀m,lo+m≤W→∀j,j<z→rd F p lo m f j=0
 |0,_,j,hj=>hz j hj
 |m+1,hm,j,hj=>by
  have ih:=h.rd_zero (lo:=lo) hz m (by omega);show tk F p (lo+m) _ j=0
  by_cases e:lo+m<z
  ·rw[tk_zero (ih _ e)];exact ih j hj
  ·rw[h.tk_low (by omega) (by omega)];exact ih j hj
theorem s_h {k:Nat}{f:Nat→Int}(e:∀a,p k=some a→F' a=F a):tk F' p k f=tk F p k f:=by
 unfold tk;split
 ·rfl
 ·rename_i b hb;rw[e b hb]
theorem rd_ext {lo:Nat}{f:Nat→Int}:∀m,(∀k a,lo≤k→k<lo+m→p k=some a→F' a=F a)→rd F' p lo m f=rd F p lo m f
 |0,_=>rfl
 |m+1,e=>by
  show tk F' p (lo+m) (rd F' p lo m f)=tk F p (lo+m) (rd F p lo m f)
  rw[rd_ext (f:=f) m fun k a h1 h2=>e k a h1 (by omega)];exact s_h fun a=>e _ a (by omega) (by omega)
theorem s_7 {a k:Nat}(ha:a<n)(f:Nat→Int)(hb:∀b,p k=some b→b<n∧b≠a)(v:Nat→Int):Lat n W (upd F a (tk F p k f)) v↔Lat n W (upd F a f) v:=by
 unfold tk;split
 ·exact Iff.rfl
 ·rename_i b e;obtain⟨h1,h2⟩:=hb b e
  have:=q_9 (F:=upd F a f) (W:=W) ha h1 h2 (f k / F b k) v;rw[upd_self,upd_upd,upd_ne h2]at this;exact this
theorem j_f {a lo:Nat}(ha:a<n)(f:Nat→Int):∀m,(∀k b,lo≤k→k<lo+m→p k=some b→b<n∧b≠a)→∀v,Lat n W (upd F a (rd F p lo m f)) v↔Lat n W (upd F a f) v
 |0,_,v=>Iff.rfl
 |m+1,h,v=>(s_7 ha _ (fun b e=>h _ b (by omega) (by omega) e) v).trans (j_f ha f m (fun k b h1 h2=>h k b h1 (by omega)) v)
theorem o_9 {lo:Nat}{f:Nat→Int}:∀m,(∀k b,lo≤k→k<lo+m→p k=some b→b<n)→Lat n W F fun j=>f j - rd F p lo m f j
 |0,_=>(Lat.zero n W F).ext fun j _=>by show f j - f j=0;omega
 |m+1,h=>by
  have ih:=o_9 (f:=f) m fun k b h1 h2=>h k b h1 (by omega);show Lat n W F fun j=>f j - tk F p (lo+m) (rd F p lo m f) j
  cases e:p (lo+m)with
  |none=>rw[tk_none e];exact ih
  |some b=>
   rw[tk_some e];exact(ih.add ((Lat.row n W F (h _ b (by omega) (by omega) e)).smul _)).ext fun j _=>by
    show f j - (rd F p lo m f j - rd F p lo m f (lo+m) / F b (lo+m)*F b j)=f j - rd F p lo m f j+rd F p lo m f (lo+m) / F b (lo+m)*F b j
    omega
end DT
end
section
namespace DT
variable {R C n W:Nat}{M N G A F F':Mx}{u v:Nat→Int}{p p':Nat→Option Nat}
def rl (p:Nat→Option Nat):Nat→List Nat
 |0=>[]
 |k+1=>rl p k++(match p k with|none=>[] |some a=>[a])
theorem rl_none {k:Nat}(h:p k=none):rl p (k+1)=rl p k:=by simp[rl,h]
theorem rl_some {k a:Nat}(h:p k=some a):rl p (k+1)=rl p k++[a]:=by simp[rl,h]
theorem rl_len_le (p:Nat→Option Nat):∀k,(rl p k).length≤k
 |0=>Nat.le_refl _
 |k+1=>by
  have:=rl_len_le p k;cases h:p k with
  |none=>rw[rl_none h];omega
  |some a=>rw[rl_some h];simp;omega
theorem rl_mem {p:Nat→Option Nat}{a m:Nat}:a∈rl p m↔∃k,k<m∧p k=some a:=by
 induction m with
 |zero=>simp[rl]
 |succ m ih=>
  cases h:p m with
  |none=>
   rw[rl_none h,ih];exact⟨fun⟨k,h1,h2⟩=>⟨k,by omega,h2⟩,fun⟨k,h1,h2⟩=>⟨k,(by
    rcases Nat.lt_or_ge k m with h3|h3
    ·exact h3
    ·rw[show k=m by omega,h]at h2;cases h2),h2⟩⟩
  |some b=>
   rw[rl_some h,List.mem_append,ih,List.mem_singleton];constructor
   ·rintro(⟨k,h1,h2⟩|rfl)
    ·exact⟨k,by omega,h2⟩
    ·exact⟨m,by omega,h⟩
   ·rintro⟨k,h1,h2⟩;rcases Nat.lt_or_ge k m with h3|h3
    ·exact .inl ⟨k,h3,h2⟩
    ·rw[show k=m by omega,h]at h2;exact .inr (Option.some.inj h2).symm
def srt (F:Mx)(p:Nat→Option Nat)(W:Nat):Mx:=fun i=>F ((rl p W).getD i 0)
theorem rl_at:∀ {m i:Nat},i<(rl p m).length→∃k,k<m∧p k=some ((rl p m).getD i 0)∧(rl p k).length=i
 |0,i,h=>by simp[rl]at h
 |m+1,i,h=>by
  cases e:p m with
  |none=>
   rw[rl_none e]at h ⊢;obtain⟨k,h1,h2,h3⟩:=rl_at h;exact⟨k,by omega,h2,h3⟩
  |some b=>
   rw[rl_some e]at h ⊢;rcases Nat.lt_or_ge i (rl p m).length with h4|h4
   ·obtain⟨k,h1,h2,h3⟩:=rl_at h4;refine⟨k,by omega, ?_,h3⟩;rw[h2];simp[List.getD,List.getElem?_append_left h4]
   ·simp at h;refine⟨m,by omega, ?_,by omega⟩;rw[e];simp[List.getD,show i=(rl p m).length by omega]
theorem l_k (p:Nat→Option Nat):∀d k,(rl p k).length≤(rl p (k+d)).length
 |0,k=>Nat.le_refl _
 |d+1,k=>by
  have:=l_k p d k;rw[←Nat.add_assoc];cases h:p (k+d)with
  |none=>rw[rl_none h];exact this
  |some a=>rw[rl_some h];simp;omega
theorem t_4 {k l a:Nat}(h:k<l)(e:p k=some a):(rl p k).length<(rl p l).length:=by
 have h1:=l_k p (l - (k+1)) (k+1);rw[show k+1+(l - (k+1))=l by omega,rl_some e]at h1;simp at h1;omega
theorem Tri.fst (h:Tri n W F p){k a:Nat}(hk:k<W)(ha:p k=some a):fst W (F a)=k:=
 fst_of hk (h.zero k a hk ha) (by have:=h.pos k a hk ha;omega)
theorem Tri.row (h:Tri n W F p){i:Nat}(hi:i<(rl p W).length):∃k a,k<W∧p k=some a∧(rl p k).length=i∧srt F p W i=F a∧DT.fst W (srt F p W i)=k:=by
 obtain⟨k,h1,h2,h3⟩:=rl_at hi;exact⟨k,_,h1,h2,h3,rfl,h.fst h1 h2⟩
theorem Tri.up (h:Tri n W F p){i l:Nat}(hil:i<l)(hl:l<(rl p W).length):DT.fst W (srt F p W i)<DT.fst W (srt F p W l):=by
 obtain⟨k,a,h1,h2,h3,-,h4⟩:=h.row (i:=i) (by omega);obtain⟨k',a',g1,g2,g3,-,g4⟩:=h.row hl;rw[h4,g4];rcases Nat.lt_trichotomy k k' with e|e|e
 ·exact e
 ·subst e;omega
 ·have:=t_4 e g2;omega
theorem Tri.steps (h:Tri n W F p):Steps (rl p W).length W (srt F p W):=fun i l hil hl _=>h.up hil hl
theorem Tri.herm (h:Tri n W F p)(hr:Rdc 0 W F p):Herm (rl p W).length W (srt F p W) where
 up:=fun i hi _=>h.up (Nat.lt_succ_self i) hi
 pos:=fun i hi _=>by
  obtain⟨k,a,h1,h2,-,h3,h4⟩:=h.row hi;rw[h4,h3];exact h.pos k a h1 h2
 red:=fun i hi _ r hri=>by
  obtain⟨k,a,h1,h2,h5,h3,h4⟩:=h.row hi;obtain⟨l,b,g1,g2,g5,g3,g4⟩:=h.row (i:=r) (by omega);have hlk:=h.up hri hi;rw[g4,h4]at hlk;rw[h4,h3,g3];exact hr l k b a (Nat.zero_le _) hlk h1 g2 h2
theorem Tri.full (h:Tri n W F p){i:Nat}(hi:i<(rl p W).length):DT.fst W (srt F p W i)<W:=by
 obtain⟨k,a,h1,h2,-,h3,h4⟩:=h.row hi;rw[h4];exact h1
theorem Tri.lat (h:Tri n W F p)(hr:Rst n W F p)(v:Nat→Int):Lat (rl p W).length W (srt F p W) v↔Lat n W F v:=by
 refine lat_both (fun i hi=>?_) (fun a ha=>?_) v
 ·obtain⟨k,a,h1,h2,-,h3,h4⟩:=h.row hi;rw[h3];exact Lat.row n W F (h.lt k a h1 h2)
 ·by_cases e:∃k,k<W∧p k=some a
  ·have hm:=rl_mem.mpr e;obtain⟨i,hi,hi2⟩:=List.getElem_of_mem hm
   have:=Lat.row (rl p W).length W (srt F p W) hi;rw[show srt F p W i=F a by unfold srt;rw[show(rl p W).getD i 0=a by simp[List.getD,hi,hi2]]]at this;exact this
  ·exact(Lat.zero _ _ _).ext fun j hj=>hr a ha (fun k hk e2=>e ⟨k,hk,e2⟩) j hj
theorem Tri.left (h:Tri n W F p)(hr:Rst n W F p)(f:Nat→Int):Lat n W F f↔∀j,j<W→rd F p 0 W f j=0:=by
 have hs:=o_9 (n:=n) (W:=W) (F:=F) (p:=p) (lo:=0) (f:=f) W fun k b _ hk hb=>h.lt k b (by omega) hb;constructor
 ·intro hf;refine Classical.byContradiction fun hn=>?_;have hl:Lat n W F (rd F p 0 W f):=(hf.sub hs).ext fun j _=>by omega
  have hlt:DT.fst W (rd F p 0 W f)<W:=by
   refine Classical.byContradiction fun h2=>hn fun j hj=>row_zero h2 hj
  obtain⟨x,hx⟩:=(h.lat hr _).mpr hl;obtain⟨i,hi,e1,hx0,e2⟩:=h.steps.lead hx hlt;obtain⟨k,a,h1,h2,-,h3,h4⟩:=h.row hi;have hk:DT.fst W (rd F p 0 W f)=k:=by rw[←e1,h4]
  rw[hk,h3]at e2;have h5:=h.rd_red (lo:=0) (f:=f) W (by omega) k a (Nat.zero_le _) (by omega) h2;have h6:=fst_ne hlt;rw[hk]at h6;rw[e2]at h5 h6;have h7:=h.pos k a h1 h2;rcases Int.lt_trichotomy (x i) 0 with h8|h8|h8
  ·have:=Int.mul_neg_of_neg_of_pos h8 h7;omega
  ·exact hx0 h8
  ·have:=Int.mul_le_mul_of_nonneg_right (show(1:Int)≤x i by omega) (Int.le_of_lt h7);omega
 ·intro h0;exact hs.ext fun j hj=>by rw[h0 j hj];omega
structure Puts (n W:Nat) (F0 F:Mx) (p:Nat→Option Nat):Prop where
 tri:Tri n W F p
 rst:Rst n W F p
 lat:∀v,Lat (n+1) W F v↔Lat (n+1) W F0 v
 low:∀a,n<a→F a=F0 a
theorem Puts.start (h:Tri n W F p)(hr:Rst n W F p):Puts n W F F p:=⟨h,hr,fun _=>Iff.rfl,fun _ _=>rfl⟩
theorem Puts.ne (h:Puts n W F F' p){k a:Nat}(hk:k<W)(ha:p k=some a):a≠n:=by have:=h.tri.lt k a hk ha;omega
theorem Puts.red (h:Puts n W F F' p):Puts n W F (upd F' n (rd F' p 0 W (F' n))) p where
 tri:=h.tri.ext fun k a hk ha=>upd_ne (h.ne hk ha)
 rst:=fun a ha hn j hj=>by rw[upd_ne (by omega)];exact h.rst a ha hn j hj
 lat:=fun v=>by
  have h1:=j_f (n:=n+1) (W:=W) (F:=F') (p:=p) (a:=n) (lo:=0) (by omega) (F' n) W (fun k b _ hk hb=>⟨by have:=h.tri.lt k b (by omega) hb;omega,h.ne (by omega) hb⟩) v;rw[h1,upd_id,h.lat]
 low:=fun a ha=>by rw[upd_ne (by omega)];exact h.low a ha
theorem Puts.room (h:Puts n W F F' p){k:Nat}{f:Nat→Int}(hk:k<W)(h0:∀j,j<k→F' n j=0)(hf:(f=F' n∨f=fun j=>- F' n j))(hp:0<f k)(hn:p k=none)(he:p'=fun l=>if l=k then some n else p l):
  Tri (n+1) W (upd F' n f) p'∧Rst (n+1) W (upd F' n f) p'∧(∀v,Lat (n+1) W (upd F' n f) v↔Lat (n+1) W F v):=by
 subst he;have hz:∀j,j<k→f j=0:=fun j hj=>by
  rcases hf with e|e<;>rw[e]
  ·exact h0 j hj
  ·show - F' n j=0;rw[h0 j hj];rfl
 have hor:∀ {l a:Nat},l<W→(if l=k then some n else p l)=some a→(l=k∧a=n)∨(l≠k∧p l=some a∧a<n):=fun {l a} hl e=>by
  by_cases e2:l=k
  ·rw[if_pos e2]at e;exact .inl ⟨e2,(Option.some.inj e).symm⟩
  ·rw[if_neg e2]at e;exact .inr ⟨e2,e,h.tri.lt l a hl e⟩
 refine⟨⟨fun l a hl e=>?_,fun l l' a hl hl' e e'=>?_,fun l a hl e j hj=>?_,fun l a hl e=>?_⟩,fun a ha hno j hj=>?_,fun v=>?_⟩
 ·rcases hor hl e with⟨_,h2⟩|⟨_,_,h2⟩<;>omega
 ·rcases hor hl e with⟨h1,h2⟩|⟨h1,h2,h3⟩<;>rcases hor hl' e' with⟨g1,g2⟩|⟨g1,g2,g3⟩
  ·omega
  ·omega
  ·omega
  ·exact h.tri.inj l l' a hl hl' h2 g2
 ·rcases hor hl e with⟨h1,h2⟩|⟨h1,h2,h3⟩
  ·subst h2;rw[upd_self];exact hz j (by omega)
  ·rw[upd_ne (by omega)];exact h.tri.zero l a hl h2 j hj
 ·rcases hor hl e with⟨h1,h2⟩|⟨h1,h2,h3⟩
  ·subst h2 h1;rw[upd_self];exact hp
  ·rw[upd_ne (by omega)];exact h.tri.pos l a hl h2
 ·have hne:a≠n:=fun e=>by
   subst e;exact hno k hk (if_pos rfl)
  rw[upd_ne hne];refine h.rst a (by omega) (fun l hl e=>?_) j hj;refine hno l hl ?_;have e2:l≠k:=fun e2=>by subst e2;rw[hn]at e;cases e
  show(if l=k then some n else p l)=some a
  rw[if_neg e2];exact e
 ·rw[←h.lat v];rcases hf with e|e
  ·rw[e,upd_id]
  ·rw[e];exact r_b (by omega) v
theorem Puts.join (h:Puts n W F F' p){k b:Nat}(hk:k<W)(h0:∀j,j<k→F' n j=0)(hb:p k=some b){x y s t g:Int}(hg:0<g)(h1:x*F' b k+y*F' n k=g)(h2:s*g=F' b k)(h3:t*g=F' n k):
  Puts n W F (upd (upd F' b fun j=>x*F' b j+y*F' n j) n fun j=>s*F' n j - t*F' b j) p∧(∀j,j<k+1→s*F' n j - t*F' b j=0):=by
 have hbn:=h.tri.lt k b hk hb;have hdet:x*s+y*t=1:=by
  have:(x*s+y*t)*g=1*g:=by rw[←h2,←h3]at h1;grind
  exact Int.eq_of_mul_eq_mul_right (by omega) this
 refine⟨⟨⟨h.tri.lt,h.tri.inj,fun l a hl ha j hj=>?_,fun l a hl ha=>?_⟩,fun a ha hno j hj=>?_,fun v=>?_,fun a ha=>?_⟩,fun j hj=>?_⟩
 ·have hne:=h.ne hl ha;rw[upd_ne hne];by_cases e:a=b
  ·subst e;obtain rfl:=h.tri.inj l k a hl hk ha hb;rw[upd_self,h.tri.zero l a hl ha j hj,h0 j hj];simp
  ·rw[upd_ne e];exact h.tri.zero l a hl ha j hj
 ·have hne:=h.ne hl ha;rw[upd_ne hne];by_cases e:a=b
  ·subst e;obtain rfl:=h.tri.inj l k a hl hk ha hb;rw[upd_self];show 0<x*F' a l+y*F' n l
   omega
  ·rw[upd_ne e];exact h.tri.pos l a hl ha
 ·rw[upd_ne (by omega),upd_ne (fun e=>by subst e;exact hno k hk hb)];exact h.rst a ha hno j hj
 ·rw[q_8 (n:=n+1) (by omega) (by omega) (by omega) hdet,h.lat]
 ·rw[upd_ne (by omega),upd_ne (by omega)];exact h.low a ha
 ·rcases Nat.lt_or_ge j k with e|e
  ·rw[h0 j e,h.tri.zero k b hk hb j e];simp
  ·obtain rfl:j=k:=by omega
   rw[←h2,←h3];grind
theorem Puts.gone (h:Puts n W F F' p)(h0:∀j,j<W→F' n j=0):Tri (n+1) W F' p∧Rst (n+1) W F' p:=by
 refine⟨⟨fun k a hk ha=>by have:=h.tri.lt k a hk ha;omega,h.tri.inj,h.tri.zero,h.tri.pos⟩,fun a ha hn j hj=>?_⟩;by_cases e:a=n
 ·subst e;exact h0 j hj
 ·exact h.rst a (by omega) hn j hj
structure Sets (n W m:Nat) (F0 F:Mx) (p:Nat→Option Nat):Prop where
 tri:Tri n W F p
 rst:Rst n W F p
 rdc:Rdc m W F p
 lat:∀v,Lat n W F v↔Lat n W F0 v
 low:∀a,(∀k,k<W→p k≠some a)→F a=F0 a
 old:∀k a,k<m→k<W→p k=some a→F a=F0 a
theorem Sets.start (h:Tri n W F p)(hr:Rst n W F p):Sets n W W F F p:=⟨h,hr,fun k l a b h1 h2 h3 _ _=>by omega,fun _=>Iff.rfl,fun _ _=>rfl,fun _ _ _ _ _=>rfl⟩
theorem Sets.none {m:Nat}(h:Sets n W (m+1) F F' p)(e:p m=Option.none):Sets n W m F F' p:=
 { h with
   rdc:=fun k l a b h1 h2 h3 ha hb=>h.rdc k l a b (by
    rcases Nat.lt_or_ge m k with h4|h4
    ·exact h4
    ·rw[show k=m by omega,e]at ha;cases ha) h2 h3 ha hb
   old:=fun k a h1 h2 ha=>h.old k a (by omega) h2 ha }
theorem Sets.some {m a:Nat}(h:Sets n W (m+1) F F' p)(hm:m<W)(e:p m=Option.some a):Sets n W m F (upd F' a (rd F' p (m+1) (W - (m+1)) (F' a))) p:=by
 have hne:∀ {l b:Nat},m<l→l<W→p l=Option.some b→b≠a:=fun {l b} h1 h2 hb e2=>by
  subst e2
  have:=h.tri.inj l m b h2 hm hb e;omega
 have hlow:=h.tri.rd_low (lo:=m+1) (f:=F' a) (W - (m+1)) (by omega);refine⟨⟨h.tri.lt,h.tri.inj,fun l b hl hb j hj=>?_,fun l b hl hb=>?_⟩,fun b hb hno j hj=>?_,fun k l b c h1 h2 h3 hb hc=>?_,fun v=>?_,fun b hno=>?_,fun k b h1 h2 hb=>?_⟩
 ·by_cases e2:b=a
  ·subst e2;obtain rfl:=h.tri.inj l m b hl hm hb e;rw[upd_self,hlow j (by omega)];exact h.tri.zero l b hl hb j hj
  ·rw[upd_ne e2];exact h.tri.zero l b hl hb j hj
 ·by_cases e2:b=a
  ·subst e2;obtain rfl:=h.tri.inj l m b hl hm hb e;rw[upd_self,hlow l (by omega)];exact h.tri.pos l b hl hb
  ·rw[upd_ne e2];exact h.tri.pos l b hl hb
 ·rw[upd_ne (fun e2=>by subst e2;exact hno m hm e)];exact h.rst b hb hno j hj
 ·have hc2:=hne (by omega) h3 hc;rw[upd_ne hc2];by_cases e2:b=a
  ·subst e2;obtain rfl:=h.tri.inj k m b (by omega) hm hb e;rw[upd_self];exact h.tri.rd_red (lo:=k+1) _ (by omega) l c (by omega) (by omega) hc
  ·rw[upd_ne e2];refine h.rdc k l b c ?_ h2 h3 hb hc;rcases Nat.lt_or_ge m k with h4|h4
   ·exact h4
   ·rw[show k=m by omega,e]at hb;exact absurd (Option.some.inj hb).symm e2
 ·have h1:=j_f (n:=n) (W:=W) (F:=F') (p:=p) (a:=a) (lo:=m+1) (h.tri.lt m a hm e) (F' a) (W - (m+1)) (fun k b h1 h2 hb=>⟨h.tri.lt k b (by omega) hb,hne (by omega) (by omega) hb⟩) v;rw[h1,upd_id,h.lat]
 ·rw[upd_ne (fun e2=>by subst e2;exact hno m hm e)];exact h.low b hno
 ·rw[upd_ne (fun e2=>by
   subst e2
   have:=h.tri.inj k m b h2 hm hb e;omega)]
  exact h.old k b (by omega) h2 hb
end DT
end
end Go.Proofs.YtgohglhefhocgaaGreat
