/- Pc01 -/
import Derived.WalkKit
import Derived.Lib.Hide
import Derived.Below
import Derived.Laws.OwnMore
import Derived.Deep.Draws
import Derived.Laws.Rows
import Derived.Deep.OwnRows
import Derived.Test.YtfhbdlegkdbmfaaGreatRows
import Derived.BigQuiet
import Derived.Deep.QuietTactic
import Derived.Deep.DeepCutAuto
import Derived.Laws.Externs
import Derived.Shelf.Bits.Mul64
import Derived.Shelf.Spec.BitsCarry
import Derived.Laws.CopyOwn
import Derived.OpenShut
import Derived.ProofKit
set_option linter.unusedVariables false
set_option linter.unusedSimpArgs false
set_option linter.unusedSectionVars false
set_option maxRecDepth 100000
set_option maxHeartbeats 8000000
namespace Go.Proofs.YtfhbdlegkdbmfaaGreat
def ev (b:Nat):List Nat->Nat
 | []=>0
 |x::xs=>x+b*ev b xs
def nth (xs:List Nat)(k:Nat):Nat:=xs.getD k 0
def pre (b:Nat)(xs:List Nat)(k:Nat):Nat:=ev b (xs.take k)
def Low (b:Nat)(xs:List Nat):Prop:=∀k,k<xs.length->nth xs k<b
def sl:List Nat->Nat
 | []=>0
 |x::xs=>if sl xs=0 then(if x=0 then 0 else 1)else sl xs+1
def cnf (b:Nat):Nat->Nat->List Nat
 |0,_=>[]
 |f+1,n=>if n=0 then[]else n%b::cnf b f (n / b)
def cn (b n:Nat):List Nat:=cnf b n n
theorem b_o (x:Nat)(xs:List Nat):nth (x::xs) 0=x:=by simp[nth]
theorem b_p (x:Nat)(xs:List Nat)(k:Nat):nth (x::xs) (k+1)=nth xs k:=by simp[nth]
theorem c_c {xs:List Nat}{k:Nat}(h:xs.length<=k):nth xs k=0:=by simp[nth,List.getD,List.getElem?_eq_none h]
theorem b_4 {xs:List Nat}{k:Nat}(h:k<xs.length):xs[k]=nth xs k:=by simp[nth,List.getD,h]
theorem nth_getElem? {xs:List Nat}{k:Nat}(h:k<xs.length):xs[k]? =some (nth xs k):=by simp[nth,List.getD,h]
theorem p_j (k:Nat):nth [] k=0:=by simp[nth]
theorem a_p {xs ys:List Nat}{k:Nat}(h:k<xs.length):nth (xs++ys) k=nth xs k:=by simp[nth,List.getD,List.getElem?_append_left h]
theorem a_k {xs ys:List Nat}{k:Nat}(h:xs.length<=k):nth (xs++ys) k=nth ys (k - xs.length):=by simp[nth,List.getD,List.getElem?_append_right h]
theorem b_n {xs:List Nat}{n k:Nat}(h:k<n):nth (xs.take n) k=nth xs k:=by simp[nth,List.getD,h]
theorem a_5 (xs:List Nat)(n k:Nat):nth (xs.drop n) k=nth xs (n+k):=by simp[nth,List.getD,List.getElem?_drop]
theorem f_p (n k:Nat):nth (List.replicate n 0) k=0:=by
 by_cases h:k<n
 ·simp[nth,List.getD,h]
 ·exact c_c (by simp;omega)
theorem d_g {xs:List Nat}{k v:Nat}(h:k<xs.length):nth (xs.set k v) k=v:=by simp[nth,List.getD,h]
theorem c_k {xs:List Nat}{k j v:Nat}(h:k≠j):nth (xs.set k v) j=nth xs j:=by simp[nth,List.getD,h]
theorem m_q (xs:List Nat)(x:Nat):nth (xs++[x]) xs.length=x:=by rw[a_k (Nat.le_refl _)];simp[nth]
theorem d_j {xs ys:List Nat}(hl:xs.length=ys.length)(h:∀k,k<xs.length->nth xs k=nth ys k):xs=ys:=by
 apply List.ext_getElem hl;intro k h1 h2;rw[b_4 h1,b_4 h2];exact h k h1
theorem r_z (b:Nat):ev b []=0:=rfl
theorem a_o (b:Nat)(xs ys:List Nat):ev b (xs++ys)=ev b xs+b^xs.length*ev b ys:=by
 induction xs with
 |nil=>simp[ev]
 |cons x xs ih=>simp only[List.cons_append,ev,ih,List.length_cons,Nat.pow_succ];grind
theorem b_g (b:Nat)(xs:List Nat)(x:Nat):ev b (xs++[x])=ev b xs+b^xs.length*x:=by
 rw[a_o];simp[ev]
theorem a_3 (b n:Nat):ev b (List.replicate n 0)=0:=by
 induction n with
 |zero=>rfl
 |succ n ih=>simp[List.replicate_succ,ev,ih]
theorem f_i {xs:List Nat}{k:Nat}(h:k<xs.length):xs.take (k+1)=xs.take k++[nth xs k]:=by
 rw[List.take_succ_eq_append_getElem h,b_4 h]
theorem a_0 (b:Nat)(xs:List Nat):pre b xs 0=0:=by simp[pre,ev]
theorem a_c (b:Nat)(xs:List Nat)(k:Nat):pre b xs (k+1)=pre b xs k+b^k*nth xs k:=by
 unfold pre;by_cases h:k<xs.length
 ·rw[f_i h,b_g,List.length_take,Nat.min_eq_left (by omega)]
 ·rw[c_c (by omega),List.take_of_length_le (by omega),List.take_of_length_le (by omega)];simp
theorem b_a (b:Nat){xs:List Nat}{k:Nat}(h:xs.length<=k):pre b xs k=ev b xs:=by unfold pre;rw[List.take_of_length_le h]
theorem a_z (b:Nat)(xs:List Nat):pre b xs xs.length=ev b xs:=b_a b (Nat.le_refl _)
theorem a_7 (b:Nat)(xs:List Nat)(k:Nat)(h:k<=xs.length):ev b xs=pre b xs k+b^k*ev b (xs.drop k):=by
 have:=a_o b (xs.take k) (xs.drop k);rw[List.take_append_drop]at this;rw[this];unfold pre;simp[Nat.min_eq_left h]
theorem Low.nil (b:Nat):Low b []:=fun k h=>by simp at h
theorem Low.take {b:Nat}{xs:List Nat}(h:Low b xs)(k:Nat):Low b (xs.take k):=fun j hj=>by
 have hj':j<k/\j<xs.length:=by simp at hj;omega
 rw[b_n hj'.1];exact h j hj'.2
theorem Low.drop {b:Nat}{xs:List Nat}(h:Low b xs)(k:Nat):Low b (xs.drop k):=fun j hj=>by
 rw[a_5];exact h _ (by simp at hj;omega)
theorem Low.tail {b x:Nat}{xs:List Nat}(h:Low b (x::xs)):Low b xs:=fun j hj=>by
 have:=h (j+1) (by simpa using hj);rwa [b_p]at this
theorem Low.head {b x:Nat}{xs:List Nat}(h:Low b (x::xs)):x<b:=by
 have:=h 0 (by simp);rwa [b_o]at this
theorem Low.snoc {b x:Nat}{xs:List Nat}(h:Low b xs)(hx:x<b):Low b (xs++[x]):=fun j hj=>by
 simp at hj;by_cases hlt:j<xs.length
 ·rw[a_p hlt];exact h j hlt
 ·obtain rfl:j=xs.length:=by omega
  rw[m_q];exact hx
theorem Low.any {b:Nat}{xs:List Nat}(h:Low b xs)(hb:0<b)(k:Nat):nth xs k<b:=by
 by_cases hk:k<xs.length
 ·exact h k hk
 ·rw[c_c (by omega)];exact hb
theorem Low.replicate (b n:Nat)(hb:0<b):Low b (List.replicate n 0):=fun k _=>by rw[f_p];exact hb
theorem Low.cons {b x:Nat}{xs:List Nat}(h:Low b xs)(hx:x<b):Low b (x::xs):=fun j hj=>by
 cases j with
 |zero=>rw[b_o];exact hx
 |succ j=>rw[b_p];exact h j (by simpa using hj)
theorem b_y {b:Nat}{xs:List Nat}(h:Low b xs):ev b xs<b^xs.length:=by
 induction xs with
 |nil=>simp[ev]
 |cons x xs ih=>
  have h1:=ih h.tail;have h2:=h.head;simp only[ev,List.length_cons,Nat.pow_succ];have:b*(ev b xs+1)<=b*b^xs.length:=Nat.mul_le_mul_left _ h1;have e:b^xs.length*b=b*b^xs.length:=Nat.mul_comm _ _;have e2:b*(ev b xs+1)=b*ev b xs+b:=Nat.mul_succ _ _;omega
theorem c_3 {b:Nat}{xs:List Nat}(h:Low b xs)(hb:0<b)(k:Nat):pre b xs k<b^k:=by
 have h1:=b_y (h.take k);have h2:b^(xs.take k).length<=b^k:=Nat.pow_le_pow_right hb (by simp;omega);unfold pre;omega
theorem a_4 (xs:List Nat):sl xs<=xs.length:=by
 induction xs with
 |nil=>simp[sl]
 |cons x xs ih=>
  simp only[sl,List.length_cons];repeat' split
  all_goals omega
theorem o_x {xs:List Nat}{k:Nat}(h:sl xs<=k):nth xs k=0:=by
 induction xs generalizing k with
 |nil=>exact p_j k
 |cons x xs ih=>
  cases k with
  |zero=>
   rw[b_o];by_cases h0:sl xs=0
   ·by_cases hx:x=0
    ·exact hx
    ·simp[sl,h0,hx]at h
   ·simp[sl,h0]at h
  |succ k=>rw[b_p];apply ih;simp only[sl]at h;split at h<;>omega
theorem e_f {xs:List Nat}(h:0<sl xs):nth xs (sl xs - 1)≠0:=by
 induction xs with
 |nil=>simp[sl]at h
 |cons x xs ih=>
  by_cases h0:sl xs=0
  ·by_cases hx:x=0
   ·simp[sl,h0,hx]at h
   ·simp[sl,h0,hx,b_o]
  ·have e:sl (x::xs)=sl xs+1:=by simp[sl,h0]
   rw[e,Nat.add_sub_cancel]
   have:=ih (by omega);obtain⟨m,hm⟩:∃m,sl xs=m+1:=⟨sl xs - 1,by omega⟩;rw[hm,b_p];rw[hm,Nat.add_sub_cancel]at this;exact this
theorem j_7 {xs:List Nat}{k:Nat}(h0:∀j,k<=j->nth xs j=0)(h1:k=0\/nth xs (k - 1)≠0):sl xs=k:=by
 rcases Nat.lt_trichotomy (sl xs) k with h|h|h
 ·rcases h1 with h1|h1
  ·omega
  ·exact absurd (o_x (by omega)) h1
 ·exact h
 ·exact absurd (h0 (sl xs - 1) (by omega)) (e_f (by omega))
theorem a_n (b:Nat)(xs:List Nat):ev b (xs.take (sl xs))=ev b xs:=by
 induction xs with
 |nil=>simp
 |cons x xs ih=>
  by_cases h0:sl xs=0
  ·rw[h0]at ih;by_cases hx:x=0
   ·have e:sl (x::xs)=0:=by simp[sl,h0,hx]
    rw[e];simp only[List.take_zero,ev]at ih ⊢;rw[<-ih,hx];simp
   ·have e:sl (x::xs)=1:=by simp[sl,h0,hx]
    rw[e];simp only[List.take_succ_cons,List.take_zero,ev]at ih ⊢;rw[<-ih]
  ·have e:sl (x::xs)=sl xs+1:=by simp[sl,h0]
   rw[e,List.take_succ_cons];simp only[ev,ih]
theorem n_i (b:Nat)(hb:2<=b):∀(f g n:Nat),n<=f->n<=g->cnf b f n=cnf b g n:=by
 intro f;induction f with
 |zero=>
  intro g n hf hg;obtain rfl:n=0:=by omega
  cases g<;>simp[cnf]
 |succ f ih=>
  intro g n hf hg;cases g with
  |zero=>obtain rfl:n=0:=by omega
         simp[cnf]
  |succ g=>
   simp only[cnf];by_cases h:n=0
   ·simp[h]
   ·have hd:n / b<n:=Nat.div_lt_self (by omega) (by omega);rw[if_neg h,if_neg h,ih g (n / b) (by omega) (by omega)]
theorem c_z (b:Nat):cn b 0=[]:=rfl
theorem i_v (b n:Nat)(hb:2<=b)(h:0<n):cn b n=n%b::cn b (n / b):=by
 unfold cn;obtain⟨m,rfl⟩:∃m,n=m+1:=⟨n - 1,by omega⟩;have hd:(m+1) / b<m+1:=Nat.div_lt_self (by omega) (by omega);rw[cnf,if_neg (by omega),n_i b hb m ((m+1) / b) ((m+1) / b) (by omega) (Nat.le_refl _)]
theorem e_o (b n:Nat)(hb:2<=b):ev b (cn b n)=n:=by
 induction n using Nat.strongRecOn with
 |_ n ih=>
  by_cases h:n=0
  ·subst h;simp[c_z,ev]
  ·have hd:n / b<n:=Nat.div_lt_self (by omega) (by omega);rw[i_v b n hb (by omega),ev,ih _ hd]
   have:=Nat.div_add_mod n b;omega
theorem c_s (b n:Nat)(hb:2<=b):Low b (cn b n):=by
 induction n using Nat.strongRecOn with
 |_ n ih=>
  by_cases h:n=0
  ·subst h;exact Low.nil b
  ·rw[i_v b n hb (by omega)];exact(ih _ (Nat.div_lt_self (by omega) (by omega))).cons (Nat.mod_lt _ (by omega))
theorem j_i (b:Nat)(hb:2<=b)(xs:List Nat)(h:Low b xs):cn b (ev b xs)=xs.take (sl xs):=by
 induction xs with
 |nil=>simp[ev,c_z]
 |cons x xs ih=>
  have hx:=h.head;have ih:=ih h.tail;by_cases hz:ev b (x::xs)=0
  ·rw[hz,c_z];have h1:x=0/\b*ev b xs=0:=by simp only[ev]at hz;omega
   have h2:ev b xs=0:=by
    rcases Nat.mul_eq_zero.1 h1.2 with h|h
    ·omega
    ·exact h
   rw[h2,c_z]at ih;have h3:sl xs=0:=by
    have:=congrArg List.length ih
    have:=a_4 xs;simp at*;omega
   simp[sl,h3,h1.1]
  ·rw[i_v b _ hb (by omega)];have e1:ev b (x::xs)%b=x:=by simp only[ev];rw[Nat.add_mul_mod_self_left,Nat.mod_eq_of_lt hx]
   have e2:ev b (x::xs) / b=ev b xs:=by simp only[ev];rw[Nat.add_mul_div_left _ _ (by omega),Nat.div_eq_of_lt hx];omega
   rw[e1,e2,ih];by_cases h0:sl xs=0
   ·have hx0:x≠0:=by
     intro hx0;apply hz
     have:=a_n b xs;rw[h0]at this;simp only[ev,List.take_zero]at this ⊢;rw[<-this,hx0];simp
    simp[sl,h0,hx0]
   ·simp[sl,h0]
theorem m_c (b n:Nat)(hb:2<=b):sl (cn b n)=(cn b n).length:=by
 have h:=j_i b hb (cn b n) (c_s b n hb);rw[e_o b n hb]at h
 have:=congrArg List.length h
 have:=a_4 (cn b n);simp at*;omega
theorem c_p (b:Nat)(hb:2<=b){xs:List Nat}(h:Low b xs):sl xs=(cn b (ev b xs)).length:=by
 rw[j_i b hb xs h];have:=a_4 xs;simp;omega
theorem c_o (b n:Nat)(hb:2<=b):(cn b n).length=0↔n=0:=by
 constructor
 ·intro h;by_cases hn:n=0
  ·exact hn
  ·rw[i_v b n hb (by omega)]at h;simp at h
 ·rintro rfl;rfl
theorem e_s (b n:Nat)(hb:2<=b):n<b^(cn b n).length:=by
 have:=b_y (c_s b n hb);rwa [e_o b n hb]at this
theorem l_p (b n:Nat)(hb:2<=b)(h:0<n):b^((cn b n).length - 1)<=n:=by
 have hl:0<(cn b n).length:=by
  rcases Nat.eq_zero_or_pos (cn b n).length with h0|h0
  ·have:=(c_o b n hb).1 h0;omega
  ·exact h0
 have ht:=e_f (xs:=cn b n) (by rw[m_c b n hb];exact hl);rw[m_c b n hb]at ht;have hp:=a_c b (cn b n) ((cn b n).length - 1);rw[Nat.sub_add_cancel hl,a_z,e_o b n hb]at hp;have:b^((cn b n).length - 1)*1<=b^((cn b n).length - 1)*nth (cn b n) ((cn b n).length - 1):=Nat.mul_le_mul_left _ (by omega);omega
theorem a_h (b n k:Nat)(hb:2<=b)(h:n<b^k):(cn b n).length<=k:=by
 by_cases hn:n=0
 ·subst hn;simp[c_z]
 ·have h1:=l_p b n hb (by omega);have h2:b^((cn b n).length - 1)<b^k:=by omega
  have:=(Nat.pow_lt_pow_iff_right (by omega:1<b)).1 h2;omega
theorem h_u (b m n:Nat)(hb:2<=b)(h:m<=n):(cn b m).length<=(cn b n).length:=
 a_h b m _ hb (Nat.lt_of_le_of_lt h (e_s b n hb))
theorem g_o (b m n:Nat)(hb:2<=b)(h:(cn b m).length<(cn b n).length):m<n:=by
 rcases Nat.lt_or_ge m n with h1|h1
 ·exact h1
 ·have:=h_u b n m hb h1;omega
def cmpN (m n:Nat):Int:=if m<n then -1 else if m=n then 0 else 1
theorem e_t {m n:Nat}(h:m<n):cmpN m n= -1:=by simp[cmpN,h]
theorem e_u {m n:Nat}(h:n<m):cmpN m n=1:=by unfold cmpN;rw[if_neg (by omega),if_neg (by omega)]
theorem e_v {m n:Nat}(h:m=n):cmpN m n=0:=by subst h;simp[cmpN]
theorem h_i {b:Nat}{xs ys:List Nat}{i n:Nat}(hx:Low b xs)(hb:0<b)(hi:i<n)(hup:∀j,i<j->j<n->nth xs j=nth ys j)(h:nth xs i<nth ys i):pre b xs n<pre b ys n:=by
 obtain⟨d,rfl⟩:∃d,n=i+1+d:=⟨n - (i+1),by omega⟩;induction d with
 |zero=>
  rw[Nat.add_zero,a_c,a_c]
  have:=c_3 hx hb i;have h2:b^i*(nth xs i+1)<=b^i*nth ys i:=Nat.mul_le_mul_left _ h;have h3:b^i*(nth xs i+1)=b^i*nth xs i+b^i:=Nat.mul_succ _ _;omega
 |succ d ih=>
  have h1:=ih (by omega) (fun j h1 h2=>hup j h1 (by omega));rw[<-Nat.add_assoc,a_c,a_c,hup (i+1+d) (by omega) (by omega)];omega
theorem g_u {b:Nat}{xs ys:List Nat}{n:Nat}(h:∀j,j<n->nth xs j=nth ys j):pre b xs n=pre b ys n:=by
 induction n with
 |zero=>rw[a_0,a_0]
 |succ n ih=>rw[a_c,a_c,ih (fun j hj=>h j (by omega)),h n (by omega)]
theorem d_c (zs:List Nat)(r v:Nat):(zs++List.replicate (r+1) 0).set zs.length v=(zs++[v])++List.replicate r 0:=by
 rw[List.set_append_right _ _ (Nat.le_refl _)];simp[List.replicate_succ]
theorem Low.append {b:Nat}{xs ys:List Nat}(h:Low b xs)(k:Low b ys):Low b (xs++ys):=fun j hj=>by
 by_cases hlt:j<xs.length
 ·rw[a_p hlt];exact h j hlt
 ·rw[a_k (by omega)];exact k _ (by simp at hj;omega)
theorem j_j {b k Z X Y s c c' x y:Nat}(hZ:Z+b^k*c=X+Y)(h:s+b*c'=x+y+c):Z+b^k*s+b^(k+1)*c'=X+b^k*x+(Y+b^k*y):=by
 rw[Nat.pow_succ];grind
theorem h_w {b k Z X Y s c c' x y:Nat}(hZ:Z+Y=X+b^k*c)(h:s+y+c=x+b*c'):Z+b^k*s+(Y+b^k*y)=X+b^k*x+b^(k+1)*c':=by
 rw[Nat.pow_succ];grind
def Adding (b:Nat)(xs ys zs:List Nat)(k c:Nat):Prop:=
 zs.length=k/\Low b zs/\c<=1/\ev b zs+b^k*c=pre b xs k+pre b ys k
theorem Adding.start (b:Nat)(xs ys:List Nat):Adding b xs ys [] 0 0:=⟨rfl,Low.nil b,by omega,by simp[ev,a_0]⟩
theorem Adding.step {b:Nat}{xs ys zs:List Nat}{k c:Nat}(hb:2<=b)(lx:Low b xs)(ly:Low b ys)(h:Adding b xs ys zs k c):
  Adding b xs ys (zs++[(nth xs k+nth ys k+c)%b]) (k+1) ((nth xs k+nth ys k+c) / b):=by
 obtain⟨h1,h2,h3,h4⟩:=h;have hx:=lx.any (by omega) k;have hy:=ly.any (by omega) k;refine⟨by simp[h1],h2.snoc (Nat.mod_lt _ (by omega)), ?_, ?_⟩
 ·have:(nth xs k+nth ys k+c) / b<2:=(Nat.div_lt_iff_lt_mul (by omega)).2 (by omega);omega
 ·rw[b_g,a_c,a_c,h1];exact j_j h4 (Nat.mod_add_div _ _)
theorem Adding.stop {b:Nat}{xs ys zs:List Nat}{k c:Nat}(hb:2<=b)(h:Adding b xs ys zs k c)(hx:xs.length<=k)(hy:ys.length<=k):
  Low b (zs++[c])/\ev b (zs++[c])=ev b xs+ev b ys/\(zs++[c]).length=k+1:=by
 obtain⟨h1,h2,h3,h4⟩:=h;rw[b_a b hx,b_a b hy]at h4;exact⟨h2.snoc (by omega),by rw[b_g,h1];exact h4,by simp[h1]⟩
def Muling (b:Nat)(ms xs zs:List Nat)(x k c:Nat):Prop:=
 zs.length=k/\Low b zs/\c<b/\ev b zs+b^k*c=pre b ms k+pre b xs k*x
theorem Muling.start {b:Nat}(hb:0<b)(ms xs:List Nat)(x:Nat):Muling b ms xs [] x 0 0:=⟨rfl,Low.nil b,hb,by simp[ev,a_0]⟩
theorem Muling.step {b:Nat}{ms xs zs:List Nat}{x k c s c':Nat}(h:Muling b ms xs zs x k c)(hs:s<b)(hc:c'<b)(he:s+b*c'=nth ms k+nth xs k*x+c):
  Muling b ms xs (zs++[s]) x (k+1) c':=by
 obtain⟨h1,h2,h3,h4⟩:=h;refine⟨by simp[h1],h2.snoc hs,hc, ?_⟩;rw[b_g,a_c,a_c,h1,Nat.pow_succ];grind
theorem c_n {L:List Nat}{q:Nat}(h:q<L.length):L.drop q=nth L q::L.drop (q+1):=by
 rw[List.drop_eq_getElem_cons h,b_4 h]
theorem o_1 {L zs:List Nat}{off k s:Nat}(hz:zs.length=k)(h:off+k<L.length):
  (L.take off++zs++L.drop (off+k)).set (off+k) s=L.take off++(zs++[s])++L.drop (off+(k+1)):=by
 have hl:(L.take off++zs).length=off+k:=by simp[hz];omega
 have e:=c_n h;rw[List.set_append_right _ _ (by omega),hl,Nat.sub_self,e,List.set_cons_zero];simp[Nat.add_assoc]
theorem p_k {L zs:List Nat}{off k:Nat}(hz:zs.length=k)(h:off+k<L.length):nth (L.take off++zs++L.drop (off+k)) (off+k)=nth L (off+k):=by
 have hl:(L.take off++zs).length=off+k:=by simp[hz];omega
 rw[a_k (by omega),hl,Nat.sub_self,a_5,Nat.add_zero]
theorem e_7 {L zs:List Nat}{off k:Nat}(hz:zs.length=k)(h:off+k<=L.length):(L.take off++zs++L.drop (off+k)).length=L.length:=by
 simp[hz];omega
def Product (b:Nat)(xs ys Z:List Nat)(i:Nat):Prop:=
 Z.length=xs.length+i/\Low b Z/\ev b Z=ev b xs*pre b ys i
theorem Product.start {b:Nat}(hb:0<b)(xs ys:List Nat):Product b xs ys (List.replicate xs.length 0) 0:=
 ⟨by simp,Low.replicate b _ hb,by rw[a_3,a_0,Nat.mul_zero]⟩
theorem Product.step {b:Nat}{xs ys Z zs:List Nat}{i c r:Nat}(h:Product b xs ys Z i)(hm:Muling b ((Z++List.replicate r 0).drop i) xs zs (nth ys i) xs.length c):
  Product b xs ys (Z.take i++zs++[c]) (i+1):=by
 obtain⟨h1,h2,h3⟩:=h;obtain⟨m1,m2,m3,m4⟩:=hm;have hl:(Z.take i).length=i:=by simp;omega
 have e1:pre b ((Z++List.replicate r 0).drop i) xs.length=ev b (Z.drop i):=by
  rw[List.drop_append_of_le_length (by omega)];unfold pre;rw[List.take_append_of_le_length (by simp;omega),List.take_of_length_le (by simp;omega)]
 have e2:=a_7 b Z i (by omega);rw[e1,a_z]at m4;refine⟨by simp[m1];omega,((h2.take i).append m2).snoc m3, ?_⟩;rw[b_g,a_o,a_c,List.length_append,hl,m1,Nat.pow_add];have e3:ev b (Z.take i)=pre b Z i:=rfl;rw[e3];grind
theorem Product.stop {b:Nat}{xs ys Z:List Nat}{i:Nat}(h:Product b xs ys Z i)(hi:ys.length<=i):ev b Z=ev b xs*ev b ys:=by
 rw[h.2.2,b_a b hi]
def Subbing (b:Nat)(xs ys zs:List Nat)(k c:Nat):Prop:=
 zs.length=k/\Low b zs/\c<=1/\ev b zs+pre b ys k=pre b xs k+b^k*c
theorem Subbing.start (b:Nat)(xs ys:List Nat):Subbing b xs ys [] 0 0:=⟨rfl,Low.nil b,by omega,by simp[ev,a_0]⟩
theorem Subbing.step {b:Nat}{xs ys zs:List Nat}{k c s c':Nat}(h:Subbing b xs ys zs k c)(hs:s<b)(hc:c'<=1)(he:s+nth ys k+c=nth xs k+b*c'):
  Subbing b xs ys (zs++[s]) (k+1) c':=by
 obtain⟨h1,h2,h3,h4⟩:=h;refine⟨by simp[h1],h2.snoc hs,hc, ?_⟩;rw[b_g,a_c,a_c,h1];exact h_w h4 he
theorem Subbing.fits {b:Nat}{xs ys zs:List Nat}{k:Nat}(h:Subbing b xs ys zs k 0)(hx:xs.length<=k)(hy:ys.length<=k):
  ev b ys<=ev b xs/\ev b zs=ev b xs - ev b ys:=by
 obtain⟨h1,h2,h3,h4⟩:=h;rw[b_a b hx,b_a b hy]at h4;omega
theorem Subbing.lacks {b:Nat}{xs ys zs:List Nat}{k:Nat}(h:Subbing b xs ys zs k 1)(hx:xs.length<=k)(hy:ys.length<=k):
  ev b xs<ev b ys:=by
 obtain⟨h1,h2,h3,h4⟩:=h
 have:=b_y h2;rw[h1]at this;rw[b_a b hx,b_a b hy]at h4;omega
end Go.Proofs.YtfhbdlegkdbmfaaGreat
namespace Go.Proofs.YtfhbdlegkdbmfaaGreat
open Go.RowKit
def vs (K:IntKind)(xs:List Nat):List Value:=xs.map fun(n:Nat)=>.int K (n:Int)
theorem a_f (K:IntKind)(xs:List Nat):(vs K xs).length=xs.length:=by simp[vs]
theorem c_e {K:IntKind}{xs:List Nat}{k:Nat}(h:k<xs.length):(vs K xs)[k]? =some (.int K (nth xs k)):=by
 simp[vs,nth_getElem? h]
theorem o_k (K:IntKind)(xs:List Nat)(n:Nat):vs K (xs.take n)=(vs K xs).take n:=by simp[vs,List.map_take]
theorem n_r (K:IntKind)(xs:List Nat)(j n:Nat):(vs K xs).set j (.int K (n:Int))=vs K (xs.set j n):=by simp[vs,List.map_set]
theorem j_z (K:IntKind)(xs:List Nat):∀u∈vs K xs,u.oneCell'=true:=by
 intro u hu;simp only[vs,List.mem_map]at hu;obtain⟨n,_,rfl⟩:=hu;rfl
theorem h_z (a:Addr)(i j:Nat):(a.add i).add j=a.add (i+j):=by
 unfold Addr.add;by_cases hi:i=0<;>by_cases hj:j=0<;>simp[hi,hj,Nat.add_assoc]
theorem a_b (a:Addr)(n:Nat):(a.add n).block=a.block:=by unfold Addr.add;split<;>rfl
theorem b_l (g i j:Nat):(⟨g,i,none⟩:Addr).add j=⟨g,i+j,none⟩:=by unfold Addr.add;split<;>simp_all
theorem b_i (g j:Nat):(⟨g,0,none⟩:Addr).add j=⟨g,j,none⟩:=by rw[b_l];simp
def Rd (w:World)(K:IntKind)(A:Option Addr)(xs:List Nat):Prop:=
 0<xs.length->∃ad,A=some ad/\ad.block<w.heap.size/\∀j,j<xs.length->w.cell? (ad.add j)=some (.int K (nth xs j))
section
variable {w w':World}{K:IntKind}{A:Option Addr}{xs zs:List Nat}
theorem Rd.nil (w:World)(K:IntKind)(A:Option Addr):Rd w K A []:=fun h=>by simp at h
theorem Rd.at (h:Rd w K A xs){k:Nat}(hk:k<xs.length):∃ad,A=some ad/\ad.block<w.heap.size/\w.cell? (ad.add k)=some (.int K (nth xs k)):=by
 obtain⟨ad,rfl,hb,hc⟩:=h (by omega);exact⟨ad,rfl,hb,hc k hk⟩
theorem Rd.cell (h:Rd w K A xs){ad:Addr}(ha:A=some ad){k:Nat}(hk:k<xs.length):w.cell? (ad.add k)=some (.int K (nth xs k)):=by
 obtain⟨ad',e,_,hc⟩:=h.at hk;rw[e]at ha;obtain rfl:=Option.some.inj ha;exact hc
theorem Rd.keep (h:Rd w K A xs)(hs:w.heap.size<=w'.heap.size)(hk:∀ad,A=some ad->ad.block<w.heap.size->∀p:Addr,p.block=ad.block->w'.cell? p=w.cell? p):Rd w' K A xs:=fun hn=>by
 obtain⟨ad,rfl,hb,hc⟩:=h hn;exact⟨ad,rfl,by omega,fun j hj=>(hk ad rfl hb _ (a_b ad j)).trans (hc j hj)⟩
theorem Rd.below (h:Rd w K A xs)(hb:Below w.heap.size w w'):Rd w' K A xs:=
 h.keep hb.size fun ad _ hlt p hp=>hb.cell (by omega)
theorem Rd.drew (h:Rd w K A xs):Rd w.drew K A xs:=h
theorem Rd.alloc (h:Rd w K A xs)(o:Obj):Rd (w.alloc o) K A xs:=h.below ((Below.refl _ _).alloc (Nat.le_refl _) o)
theorem Rd.take (h:Rd w K A xs)(n:Nat):Rd w K A (xs.take n):=fun hn=>by
 have hl:0<xs.length:=by simp at hn;omega
 obtain⟨ad,rfl,hb,hc⟩:=h hl;exact⟨ad,rfl,hb,fun j hj=>by have hj':j<n/\j<xs.length:=by { simp at hj;omega };rw[b_n hj'.1];exact hc j hj'.2⟩
theorem Rd.drop (h:Rd w K A xs)(k:Nat):Rd w K (A.map (·.add k)) (xs.drop k):=fun hn=>by
 have hl:k<xs.length:=by simp at hn;omega
 obtain⟨ad,rfl,hb,hc⟩:=h (by omega);exact⟨ad.add k,rfl,by rw[a_b];exact hb,fun j hj=>by rw[h_z,a_5];exact hc _ (by simp at hj;omega)⟩
theorem Rd.grown (h:Rd w K A xs){row:Option Nat}(hg:w.grownBy w' row)(hr:∀ad,A=some ad->some ad.block≠row):Rd w' K A xs:=
 h.keep hg.size fun ad ha hlt p hp=>World.cell?_of_block (hg.block p.block (by omega) (by rw[hp];exact hr ad ha))
end
def Sees (w w':World):Prop:=∃q,w'=w.drewN q
theorem Sees.refl (w:World):Sees w w:=⟨0,rfl⟩
theorem Sees.trans {a b c:World}(h:Sees a b)(k:Sees b c):Sees a c:=by
 obtain⟨p,rfl⟩:=h;obtain⟨q,rfl⟩:=k;exact⟨p+q,by rw[World.drewN_drewN]⟩
theorem Sees.more {a b:World}(h:Sees a b)(q:Nat):Sees a (b.drewN q):=h.trans ⟨q,rfl⟩
theorem Sees.rd {w w':World}{K:IntKind}{A:Option Addr}{xs:List Nat}(h:Sees w w')(hr:Rd w K A xs):Rd w' K A xs:=by
 obtain⟨q,rfl⟩:=h;exact hr
theorem Sees.below {w w':World}(h:Sees w w')(B:Nat):Below B w w':=by
 obtain⟨q,rfl⟩:=h;exact⟨rfl,rfl,rfl,Nat.le_refl _,fun _ _=>rfl⟩
theorem e_3 {P:Program}{f:FuncId}{args:Array Value}{w:World}{n:Nat}{v:Value}
  (h:Calls P f args (w.drewN n) fun e w'=>e= .returned v/\w.drewN n=w'):Calls P f args (w.drewN n) fun e w''=>e= .returned v/\∃m,w''=w.drewN m:=
 h.mono fun _ _ ⟨he,hm⟩=>⟨he,n,hm.symm⟩
theorem i_8 {P:Program}{f:FuncId}{args:Array Value}{w:World}{n:Nat}{v:Value}
  (h:Calls P f args (w.drewN n) fun e w'=>e= .returned v/\Sees (w.drewN n) w'):Calls P f args (w.drewN n) fun e w''=>e= .returned v/\∃m,w''=w.drewN m:=
 h.mono fun _ _ ⟨he,m,hm⟩=>⟨he,n+m,by rw[hm,World.drewN_drewN]⟩
def Blk (w:World)(g:Nat)(t:TypeId)(K:IntKind)(xs:List Nat):Prop:=w.heap[g]? =some (.cells (vs K xs).toArray t (0,0))
section
variable {w w':World}{g:Nat}{t:TypeId}{K:IntKind}{xs:List Nat}
theorem Blk.lt (h:Blk w g t K xs):g<w.heap.size:=by
 rcases Nat.lt_or_ge g w.heap.size with hlt|hge
 ·exact hlt
 ·unfold Blk at h;rw[Array.getElem?_eq_none hge]at h;cases h
theorem Blk.cell (h:Blk w g t K xs){j:Nat}(hj:j<xs.length):w.cell? ⟨g,j,none⟩=some (.int K (nth xs j)):=by
 rw[cell_of_row w g j _ t (0,0) h,List.getElem?_toArray,c_e hj]
theorem Blk.free (h:Blk w g t K xs)(j:Nat):w.frozen? ⟨g,j,none⟩=false:=frozen_of_row w g j _ t h
theorem Blk.set (h:Blk w g t K xs)(j n:Nat):Blk (w.setCell ⟨g,j,none⟩ (.int K (n:Int))) g t K (xs.set j n):=by
 unfold Blk;rw[heap_setCell_same w g j _ t _ h,List.setIfInBounds_toArray,n_r]
theorem Blk.drew (h:Blk w g t K xs):Blk w.drew g t K xs:=h
theorem Blk.alloc (h:Blk w g t K xs)(o:Obj):Blk (w.alloc o) g t K xs:=(Below.heap_alloc w o g h.lt).trans h
theorem Blk.far (h:Blk w g t K xs){p:Addr}(hp:g≠p.block)(u:Value):Blk (w.setCell p u) g t K xs:=(Below.heap_setCell w p u g hp).trans h
theorem Blk.below {B:Nat}(h:Blk w g t K xs)(hb:Below B w w')(hg:g<B):Blk w' g t K xs:=(hb.block g hg).trans h
theorem p_s (K:IntKind)(n:Nat):madeCells #[.int K 0] n=(vs K (List.replicate n 0)).toArray:=by
 apply Array.ext
 ·simp[size_madeCells,vs]
 ·intro i h1 h2;simp[madeCells,vs,Nat.mod_one]
theorem Blk.made (w:World)(t:TypeId)(K:IntKind)(n:Nat):Blk (w.alloc (.cells (madeCells #[.int K 0] n) t)) w.heap.size t K (List.replicate n 0):=by
 unfold Blk;rw[heap_alloc_new w,p_s]
theorem Blk.rd (h:Blk w g t K xs)(off:Nat):Rd w K (some ⟨g,off,none⟩) (xs.drop off):=fun hn=>
 ⟨_,rfl,h.lt,fun j hj=>by
  rw[b_l,a_5];exact h.cell (by simp at hj;omega)⟩
theorem Blk.rd0 (h:Blk w g t K xs):Rd w K (some ⟨g,0,none⟩) xs:=by simpa using h.rd 0
theorem Blk.owns (h:Blk w g t K xs){base n:Nat}(hb:base<=g)(hn:n<=xs.length)(hm:xs.length<=maxLen):
  w.ownsRow base t 1 (.slice (some ⟨g,0,none⟩) n xs.length) n (vs K (xs.take n)):=
 ⟨by simp[a_f,Nat.min_eq_left hn],.inr ⟨g,xs.length,_,rfl,hb,h,hn,hm,by simp[a_f],by simp[o_k]⟩⟩
end
def Got (w w':World)(t:TypeId)(K:IntKind)(A:Option Addr)(c:Nat)(zs:List Nat):Prop:=
 w'.ownsRow w.heap.size t 1 (.slice A zs.length c) zs.length (vs K zs)/\Below w.heap.size w w'
section
variable {w w':World}{t:TypeId}{K:IntKind}{A:Option Addr}{c:Nat}{zs:List Nat}
theorem r_c {base:Nat}(h:w.ownsRow base t 1 (.slice A zs.length c) zs.length (vs K zs)):Rd w K A zs:=fun hn=>by
 rcases h.2 with⟨h1,h2⟩|⟨g,cap,cur,hv,hg,hh,hnc,hcm,hcs,htake⟩
 ·omega
 ·have hA:A=some ⟨g,0,none⟩:=by injection hv
  subst hA;refine⟨_,rfl, ?_,fun j hj=>h.cells (g:=g) rfl j _ (c_e hj)⟩;exact(h.lt g rfl).2
theorem p_i {base:Nat}(h:w.ownsRow base t 1 (.slice A zs.length c) zs.length (vs K zs)):zs.length<=c/\c<=maxLen:=by
 rcases h.2 with⟨h1,h2⟩|⟨g,cap,cur,hv,hg,hh,hnc,hcm,hcs,htake⟩
 ·injection h1 with _ _ hc;subst hc;unfold maxLen;omega
 ·injection hv with _ _ hc;subst hc;exact⟨hnc,hcm⟩
theorem Got.rd (h:Got w w' t K A c zs):Rd w' K A zs:=r_c h.1
theorem Got.cap (h:Got w w' t K A c zs):zs.length<=c/\c<=maxLen:=p_i h.1
theorem Got.nil (w:World)(t:TypeId)(K:IntKind):Got w w t K none 0 []:=⟨World.ownsRow_nil w _ _ _,Below.refl _ _⟩
theorem Got.nil' (t:TypeId)(K:IntKind)(hb:Below w.heap.size w w'):Got w w' t K none 0 []:=⟨World.ownsRow_nil w' _ _ _,hb⟩
theorem Got.of_own {base:Nat}(h:w'.ownsRow base t 1 (.slice A zs.length c) zs.length (vs K zs))(hbase:w.heap.size<=base)(hb:Below w.heap.size w w'):Got w w' t K A c zs:=by
 refine⟨⟨h.1, ?_⟩,hb⟩;rcases h.2 with h1|⟨g,cap,cur,hv,hg,rest⟩
 ·exact .inl h1
 ·exact .inr ⟨g,cap,cur,hv,by omega,rest⟩
end
theorem a_e {P:Program}(w:World){ops:Array Oper}{rest:List Oper}{o:Oper}{a:Act}{Q:Exit->Act->World->Prop}
  (hg:o.guard=none) (l c:Operand) (t:TypeId) (hop:o.op=Op.makeSlice t l c)
  (e:TypeId) (K:IntKind) (bytes:Nat) (ht:P.underlying t=some (.slice e)) (hinfo:(P.info? e).map (fun i=>(i.zero,i.size,i.bytes))=some (some (.int K 0),1,bytes))
  (kl kc:IntKind) (L C:Int) (n:Nat) (hl:a.eval l= .int kl L) (hc:a.eval c= .int kc C) (hL:L=(n:Int)) (hC:C=(n:Int)) (hbytes:bytes*n<=281474976710656) (h63:n<=9223372036854775807)
  (hK:∀w',Blk w' w.heap.size e K (List.replicate n 0)->Below w.heap.size w w'->w'.heap.size=w.heap.size+1->wpList P ops Q rest (a.put o.dst (.slice (some ⟨w.heap.size,0,none⟩) n n)) w'):
  wpList P ops Q (o::rest) a w:=by
 subst hL hC;obtain⟨i,hi,hz0,hz1,hz2⟩:=info_parts hinfo;refine wpList_make_row w hg l c t hop e i (.int K 0) ht hi hz0 hz1 rfl kl kc n hl hc (by rw[hz2];exact hbytes) h63 ?_;exact hK _ (Blk.made w e K n) ((Below.refl _ _).alloc (Nat.le_refl _) _) (by simp)
theorem c_l {w w':World}{g:Nat}{t:TypeId}{K:IntKind}{xs:List Nat}{b:Nat}(hb:2<=b)(h:Blk w' g t K xs)(hg:w.heap.size<=g)(hw:Below w.heap.size w w')(hm:xs.length<=9223372036854775807)(hl:Low b xs):
  Got w w' t K (some ⟨g,0,none⟩) xs.length (cn b (ev b xs)):=by
 have ho:=h.owns (n:=sl xs) hg (a_4 xs) (by unfold maxLen;omega);have e:=j_i b hb xs hl;refine⟨?_,hw⟩;rw[e];have:(xs.take (sl xs)).length=sl xs:=by simp[Nat.min_eq_left (a_4 xs)]
 rw[this];exact ho
end Go.Proofs.YtfhbdlegkdbmfaaGreat
namespace Go.Proofs.YtfhbdlegkdbmfaaGreat
open Go.RowKit
theorem p_d {k:IntKind}{a b:Int}(h:a=b):Ending.returned (.int k a)= .returned (.int k b):=by rw[h]
def Zs (xs:List Nat)(k:Nat):Prop:=∀j,k<=j->nth xs j=0
theorem a_d (A:Option Addr)(n c:Nat)(xs:List Nat)(w:World)(hr:Rd w .u64 A xs)(hn:xs.length=n)(hc:n<=c)(hm:c<=9223372036854775807):
  Calls Tryz.prog 106 #[.slice A n c] w fun e w'=>e= .returned (.slice A (sl xs) c)/\w=w':=by
 subst hn;go_enter Tryz.func106,Tryz.ntmps106
 go_wp2
 go_loop [3] (fun n=>∃k:Nat,k<=xs.length/\Zs xs k/\n= .int .i64 k) (fun n=>(intOf n).toNat)
 case atStart=>exact⟨xs.length,Nat.le_refl _,fun j hj=>c_c hj,rfl⟩
 case round=>
  obtain⟨k,hk,hz,rfl⟩:=hrel;by_cases h0:k=0
  ·subst h0;have e:sl xs=0:=j_7 hz (.inl rfl);have E:=Lib.hid e;clear e
   go_wp2
   go_ret
   exact⟨by rw[E.out];rfl,rfl⟩
  ·obtain⟨m,rfl⟩:∃m,k=m+1:=⟨k - 1,by omega⟩;obtain⟨ad,rfl,_,hcell⟩:=hr.at (k:=m) (by omega);by_cases hx:nth xs m=0
   ·rw[hx]at hcell;have hz':Zs xs m:=fun j hj=>by
     rcases Nat.eq_or_lt_of_le hj with rfl|h
     ·exact hx
     ·exact hz j h
    have H:=Lib.hid hx;clear hx h0
    go_wp2
    go_round
    case rel=>exact⟨m,by omega,hz',by go_num⟩
    case measure=>simp[intOf]
   ·have e:sl xs=m+1:=j_7 hz (.inr hx);have E:=Lib.hid e;have hb:(((nth xs m:Nat):Int)==0)=false:=by rw[beq_eq_false_iff_ne];omega
    clear e h0 hx
    go_wp2
    go_ret
    exact⟨by rw[E.out];rfl,rfl⟩
theorem b_3 (b:Bool)(w:World):
  Calls Tryz.prog 142 #[.bool b] w fun e w'=>e= .returned (.int .i64 (if b then -1 else 1))/\w=w':=by
 cases b
 ·go_enter Tryz.func142,Tryz.ntmps142
  go_wp2
  go_ret
  exact⟨rfl,rfl⟩
 ·go_enter Tryz.func142,Tryz.ntmps142
  go_wp2
  go_ret
  exact⟨rfl,rfl⟩
def OfPost (x:Nat)(w:World)(e:Ending)(w':World):Prop:=
 ∃A c,e= .returned (.slice A (cn 18446744073709551616 x).length c)/\Got w w' 85 .u64 A c (cn 18446744073709551616 x)
theorem f_o (x:Nat)(hx:x<18446744073709551616)(w:World):
  Calls Tryz.prog 55 #[.int .u64 x] w (OfPost x w):=by
 go_enter Tryz.func55,Tryz.ntmps55
 have hb:Blk (w.alloc (.cells #[.int .u64 x] 85)) w.heap.size 85 .u64 [x]:=heap_alloc_new w _
 go_wp2_with (go_at_call 106;refine(a_d _ 1 1 [x] _ hb.rd0 rfl (Nat.le_refl _) (by omega)).mono ?_;rintro e w' ⟨rfl,rfl⟩)
 go_ret
 have hl:Low 18446744073709551616 [x]:=(Low.nil _).cons hx;have hg:=c_l (by omega) hb (Nat.le_refl _) ((Below.refl _ _).alloc (Nat.le_refl _) _) (by simp) hl;have ee:ev 18446744073709551616 [x]=x:=by simp[ev]
 have es:=c_p _ (by omega) hl;rw[ee]at hg es;exact⟨_,_,by rw[<-es];rfl,hg⟩
end Go.Proofs.YtfhbdlegkdbmfaaGreat
namespace Go.Proofs.YtfhbdlegkdbmfaaGreat
open Go.RowKit
def Sm (xs ys:List Nat)(k n:Nat):Prop:=∀j,k<=j->j<n->nth xs j=nth ys j
theorem h_v {b:Nat}{xs ys:List Nat}(hb:2<=b)(hx:Low b xs)(hy:Low b ys)(h:sl xs<sl ys):ev b xs<ev b ys:=
 g_o b _ _ hb (by rw[<-c_p b hb hx,<-c_p b hb hy];exact h)
theorem g_i (b:Nat)(xs:List Nat):pre b xs (sl xs)=ev b xs:=a_n b xs
theorem g_v {b:Nat}{xs ys:List Nat}{m:Nat}(hb:2<=b)(hx:Low b xs)(he:sl xs=sl ys)(hm:m<sl xs)(hs:Sm xs ys (m+1) (sl xs))(h:nth xs m<nth ys m):ev b xs<ev b ys:=by
 rw[<-g_i b xs,<-g_i b ys,<-he];exact h_i hx (by omega) hm (fun j h1 h2=>hs j (by omega) h2) h
theorem n_j {b:Nat}{xs ys:List Nat}(he:sl xs=sl ys)(hs:Sm xs ys 0 (sl xs)):ev b xs=ev b ys:=by
 rw[<-g_i b xs,<-g_i b ys,<-he];exact g_u (fun j hj=>hs j (by omega) hj)
theorem l_q (A B:Option Addr)(n m c d:Nat)(xs ys:List Nat)(w:World)(hx:Rd w .u64 A xs)(hy:Rd w .u64 B ys)(hxn:xs.length=n)(hyn:ys.length=m)
  (hc:n<=c) (hc':c<=9223372036854775807) (hd:m<=d) (hd':d<=9223372036854775807) (lx:Low 18446744073709551616 xs) (ly:Low 18446744073709551616 ys):
  Calls Tryz.prog 109 #[.slice A n c,.slice B m d] w fun e w'=>e= .returned (.int .i64 (cmpN (ev 18446744073709551616 xs) (ev 18446744073709551616 ys)))/\Sees w w':=by
 have bx:sl xs<=n:=hxn ▸ a_4 xs;have bY:sl ys<=m:=hyn ▸ a_4 ys;have HX:=Lib.hid hxn;have HY:=Lib.hid hyn;clear hxn hyn;rcases Nat.lt_trichotomy (sl xs) (sl ys)with hlt|heq|hlt
 ·have e:=e_t (h_v (by omega) lx ly hlt);have E:=Lib.hid e;clear e;have f1:¬(sl xs=sl ys):=by omega
  go_enter Tryz.func109,Tryz.ntmps109
  go_wp2_with fail
  refine(a_d _ _ _ xs _ hx HX.out (by omega) (by omega)).mono ?_;rintro e w' ⟨rfl,rfl⟩
  go_wp2_with fail
  refine(a_d _ _ _ ys _ hy HY.out (by omega) (by omega)).mono ?_;rintro e w' ⟨rfl,rfl⟩
  go_wp2_with fail
  refine(b_3 _ _).mono ?_;rintro e w' ⟨rfl,rfl⟩
  go_wp2
  go_ret
  exact⟨by rw[E.out];rfl,Sees.refl _⟩
 ·have E:=Lib.hid heq;have L:ys.take (sl ys)=ys.take (sl ys):=rfl;clear L;have X:=Lib.hid (show(sl ys:Nat)=sl xs from heq.symm);clear heq;go_enter Tryz.func109,Tryz.ntmps109
  go_wp2_with fail
  refine(a_d _ _ _ xs _ hx HX.out (by omega) (by omega)).mono ?_;rintro e w' ⟨rfl,rfl⟩
  go_wp2_with fail
  refine(a_d _ _ _ ys _ hy HY.out (by omega) (by omega)).mono ?_;rintro e w' ⟨rfl,rfl⟩;rw[X.out]
  go_wp2
  go_loopw [5] (fun i wr=>∃k:Nat,k<=sl xs/\Sm xs ys k (sl xs)/\i= .int .i64 ((k:Int) - 1)/\Sees w wr) (fun i _=>(intOf i+1).toNat)
  case atStart=>exact⟨sl xs,Nat.le_refl _,fun j h1 h2=>by omega,rfl,Sees.refl _⟩
  case round=>
   obtain⟨k,hk,hs,rfl,hw⟩:=hrel;rcases Nat.eq_zero_or_pos k with rfl|hpos
   ·have e:=e_v (n_j (b:=18446744073709551616) E.out hs);have E2:=Lib.hid e;clear e
    go_wp2
    go_ret
    exact⟨by rw[E2.out];rfl,hw⟩
   ·obtain⟨i,rfl⟩:∃i,k=i+1:=⟨k - 1,by omega⟩;obtain⟨ad,rfl,_,c1⟩:=(hw.rd hx).at (k:=i) (by have:=HX.out;omega);obtain⟨ae,rfl,_,c2⟩:=(hw.rd hy).at (k:=i) (by have:=HY.out;have:=X.out;omega);rw[show(((i+1:Nat):Int) - 1)=(i:Int)from by omega];have hi:i<sl xs:=by omega
    rcases Nat.lt_trichotomy (nth xs i) (nth ys i)with h1|h1|h1
    ·have e:=e_t (g_v (b:=18446744073709551616) (by omega) lx E.out hi hs h1);have E2:=Lib.hid e;have b1:(((nth xs i:Nat):Int) != ((nth ys i:Nat):Int))=true:=by rw[bne_iff_ne];omega
     clear e hs
     go_wp2
     go_quiet (fail)
     obtain⟨w1,hw1⟩:∃w1,w1=wr.drewN nq:=⟨_,rfl⟩;have hs1:Sees w w1:=hw1 ▸ hw.more nq;have c3:w1.cell? (ad.add i)=some (.int .u64 (nth xs i)):=by rw[hw1];exact c1
     have c4:w1.cell? (ae.add i)=some (.int .u64 (nth ys i)):=by rw[hw1];exact c2
     rw[<-hw1];clear hw1 c1 c2 hw
     go_wp2
     go_quiet ((go_at_call 142;exact e_3 (b_3 _ _)))
     go_wp2
     go_ret
     exact⟨by rw[E2.out];simp,hs1.more _⟩
    ·have b1:(((nth xs i:Nat):Int) != ((nth ys i:Nat):Int))=false:=by rw[bne_eq_false_iff_eq];omega
     have hs':Sm xs ys i (sl xs):=fun j h2 h3=>by
      rcases Nat.eq_or_lt_of_le h2 with rfl|h
      ·exact h1
      ·exact hs j h h3
     clear h1 hs
     go_wp2
     go_quiet (fail)
     go_wp2
     go_roundw
     case rel=>exact⟨i,by omega,hs',rfl,hw.more _⟩
     case measure=>simp[intOf]
    ·have hs2:Sm ys xs (i+1) (sl ys):=fun j h2 h3=>(hs j h2 (by have:=E.out;omega)).symm;have e:=e_u (g_v (b:=18446744073709551616) (by omega) ly X.out (by have:=E.out;omega) hs2 h1);have E2:=Lib.hid e;have b1:(((nth xs i:Nat):Int) != ((nth ys i:Nat):Int))=true:=by rw[bne_iff_ne];omega
     have b2:¬(nth xs i<nth ys i):=by omega
     clear e hs hs2
     go_wp2
     go_quiet (fail)
     obtain⟨w1,hw1⟩:∃w1,w1=wr.drewN nq:=⟨_,rfl⟩;have hs1:Sees w w1:=hw1 ▸ hw.more nq;have c3:w1.cell? (ad.add i)=some (.int .u64 (nth xs i)):=by rw[hw1];exact c1
     have c4:w1.cell? (ae.add i)=some (.int .u64 (nth ys i)):=by rw[hw1];exact c2
     rw[<-hw1];clear hw1 c1 c2 hw
     go_wp2
     go_quiet ((go_at_call 142;exact e_3 (b_3 _ _)))
     go_wp2
     go_ret
     exact⟨by rw[E2.out];simp,hs1.more _⟩
 ·have e:=e_u (h_v (by omega) ly lx hlt);have E:=Lib.hid e;clear e;have f1:¬(sl xs=sl ys):=by omega
  have f2:¬(sl xs<sl ys):=by omega
  go_enter Tryz.func109,Tryz.ntmps109
  go_wp2_with fail
  refine(a_d _ _ _ xs _ hx HX.out (by omega) (by omega)).mono ?_;rintro e w' ⟨rfl,rfl⟩
  go_wp2_with fail
  refine(a_d _ _ _ ys _ hy HY.out (by omega) (by omega)).mono ?_;rintro e w' ⟨rfl,rfl⟩
  go_wp2_with fail
  refine(b_3 _ _).mono ?_;rintro e w' ⟨rfl,rfl⟩
  go_wp2
  go_ret
  exact⟨by rw[E.out];rfl,Sees.refl _⟩
end Go.Proofs.YtfhbdlegkdbmfaaGreat
namespace Go.Proofs.YtfhbdlegkdbmfaaGreat
open Go.RowKit
theorem info_u64:(Tryz.prog.info? 85).map (fun i=>(i.zero,i.size,i.bytes))=some (some (.int .u64 0),1,8):=by kernel_rfl
theorem c_h (x y c:Nat)(hc:c<=1)(w:World):
  (callFunc 179 #[.int .u64 x,.int .u64 y,.int .u64 c]).run Tryz.prog w=
   .ok (.value (.tuple #[.int .u64 (((x+y+c)%18446744073709551616:Nat):Int),.int .u64 (((x+y+c) / 18446744073709551616:Nat):Int)])) w:=by
 rw[run_callFunc_extern Tryz.func179 (by kernel_rfl) (by kernel_rfl) (by kernel_rfl) (e:=add64Entry) (by kernel_rfl),run_add64 x y c (by omega) (by omega) (by omega) (by omega)];simp only[Result.andThen];congr 5<;>omega
theorem d_p (x c:Nat)(hc:c<=1)(w:World):
  (callFunc 179 #[.int .u64 x,.int .u64 0,.int .u64 c]).run Tryz.prog w=
   .ok (.value (.tuple #[.int .u64 (((x+c)%18446744073709551616:Nat):Int),.int .u64 (((x+c) / 18446744073709551616:Nat):Int)])) w:=
 c_h x 0 c hc w
def NatPost (v:Nat)(w:World)(e:Ending)(w':World):Prop:=
 ∃A c,e= .returned (.slice A (cn 18446744073709551616 v).length c)/\Got w w' 85 .u64 A c (cn 18446744073709551616 v)
theorem h_h {w w':World}{g v n:Nat}{zs:List Nat}(hb:Blk w' g 85 .u64 zs)(hg:w.heap.size<=g)(hw:Below w.heap.size w w')(hn:zs.length=n)(hm:n<=9223372036854775807)(hl:Low 18446744073709551616 zs)(hv:ev 18446744073709551616 zs=v):
  NatPost v w (.returned (.slice (some ⟨g,0,none⟩) (sl zs) n)) w':=by
 subst hn hv;exact⟨_,_,by rw[c_p _ (by omega) hl],c_l (by omega) hb hg hw hm hl⟩
def AddCut (w:World)(F:Nat->Nat->Prop)(va vb:Value)(wx:World):Prop:=
 ∃(A B:Option Addr) (c d:Nat) (xs ys:List Nat),va= .slice A xs.length c/\vb= .slice B ys.length d/\Rd w .u64 A xs/\Rd w .u64 B ys/\ys.length<=xs.length/\xs.length<=1099511627776/\
  Low 18446744073709551616 xs/\Low 18446744073709551616 ys/\F (ev 18446744073709551616 xs) (ev 18446744073709551616 ys)/\wx=w
theorem AddCut.mk {w:World}{A B:Option Addr}{c d:Nat}{xs ys:List Nat}(hx:Rd w .u64 A xs)(hy:Rd w .u64 B ys)(h:sl ys<=sl xs)(hm:sl xs<=1099511627776)
  (lx:Low 18446744073709551616 xs) (ly:Low 18446744073709551616 ys) {F:Nat->Nat->Prop} (hS:F (ev 18446744073709551616 xs) (ev 18446744073709551616 ys)):
  AddCut w F (.slice A (sl xs) c) (.slice B (sl ys) d) w:=by
 have ex:(xs.take (sl xs)).length=sl xs:=by simp[Nat.min_eq_left (a_4 xs)]
 have ey:(ys.take (sl ys)).length=sl ys:=by simp[Nat.min_eq_left (a_4 ys)]
 exact⟨A,B,c,d,xs.take (sl xs),ys.take (sl ys),by rw[ex],by rw[ey],hx.take _,hy.take _,by rw[ex,ey];exact h,by rw[ex];exact hm,lx.take _,ly.take _,by rw[a_n,a_n];exact hS,rfl⟩
def AddRel (w:World)(xs ys:List Nat)(n k:Nat)(s:Value)(wr:World):Prop:=
 ∃(c r:Nat) (zs:List Nat),Adding 18446744073709551616 xs ys zs k c/\s= .int .u64 c/\k+r=n/\Blk wr w.heap.size 85 .u64 (zs++List.replicate (r+1) 0)/\Below w.heap.size w wr
theorem AddRel.next {w wr:World}{xs ys zs:List Nat}{n k c r:Nat}{s:Value}(lx:Low 18446744073709551616 xs)(ly:Low 18446744073709551616 ys)(ha:Adding 18446744073709551616 xs ys zs k c)
  (hn:k+(r+1)=n) (hb:Blk wr w.heap.size 85 .u64 (zs++List.replicate (r+1+1) 0)) (hw:Below w.heap.size w wr)
  (hs:s= .int .u64 (((nth xs k+nth ys k+c) / 18446744073709551616:Nat):Int)):
  AddRel w xs ys n (k+1) s (wr.setCell ⟨w.heap.size,k,none⟩ (.int .u64 (((nth xs k+nth ys k+c)%18446744073709551616:Nat):Int))):=by
 have h:=hb.set zs.length ((nth xs k+nth ys k+c)%18446744073709551616);rw[d_c,ha.1]at h;exact⟨_,r,_,ha.step (by omega) lx ly,hs,by omega,h,hw.setCell (Nat.le_refl _) _⟩
theorem l_y (A B:Option Addr)(n m c d:Nat)(xs ys:List Nat)(w:World)(hx:Rd w .u64 A xs)(hy:Rd w .u64 B ys)(hxn:xs.length=n)(hyn:ys.length=m)
  (hc:n<=c) (hc':c<=9223372036854775807) (hd:m<=d) (hd':d<=9223372036854775807) (lx:Low 18446744073709551616 xs) (ly:Low 18446744073709551616 ys)
  (bx:n<=1099511627776) (bY:m<=1099511627776):
  Calls Tryz.prog 155 #[.slice A n c,.slice B m d] w (NatPost (ev 18446744073709551616 xs+ev 18446744073709551616 ys) w):=by
 have sx:sl xs<=n:=hxn ▸ a_4 xs;have sy:sl ys<=m:=hyn ▸ a_4 ys;have HX:=Lib.hid hxn;have HY:=Lib.hid hyn;clear hxn hyn;go_enter Tryz.func155,Tryz.ntmps155
 go_wp2_with fail
 refine(a_d _ _ _ xs _ hx HX.out (by omega) (by omega)).mono ?_;rintro e w' ⟨rfl,rfl⟩
 go_wp2_with fail
 refine(a_d _ _ _ ys _ hy HY.out (by omega) (by omega)).mono ?_;rintro e w' ⟨rfl,rfl⟩;go_upto_if 18 with fail
 go_cut [0,1] (AddCut w (fun x y=>x+y=ev 18446744073709551616 xs+ev 18446744073709551616 ys))
 case first=>
  by_cases h:sl xs<sl ys
  ·go_wp2
   go_meet
   exact AddCut.mk hy hx (by omega) (by omega) ly lx (Nat.add_comm _ _)
  ·go_wp2
   go_meet
   exact AddCut.mk hx hy (by omega) (by omega) lx ly rfl
 case rest=>
  clear hx hy lx ly sx sy HX HY hc hc' hd hd' bx bY;obtain⟨A,B,c,d,xs,ys,rfl,rfl,hx,hy,hle,hmx,lx,ly,hS,rfl⟩:=hcut;have HS:=Lib.hid hS;clear hS
  go_wp2_with (at_make;refine a_e _ rfl _ _ 29 rfl 85 .u64 8 Tryz.underlying29 info_u64 _ _ _ _ (xs.length+1) rfl rfl (by omega) (by omega) (by omega) (by omega) ?_)
  intro w1 hb1 hw1 hz1;have HZ:=Lib.hid hz1;clear hz1
  go_wp2
  go_loopw [6,27] (fun s i wr=>∃k:Nat,k<=ys.length/\i= .int .i64 k/\AddRel wc xs ys xs.length k s wr) (fun _ i _=>ys.length - (intOf i).toNat)
  case atStart=>exact⟨0,Nat.zero_le _,rfl,0,xs.length,[],Adding.start _ _ _,rfl,by omega,hb1,hw1⟩
  case round=>
   obtain⟨k,hk,rfl,cr,r,zs,ha,rfl,hkr,hb,hw⟩:=hrel;by_cases hlt:k<ys.length
   ·obtain⟨r,rfl⟩:∃q,r=q+1:=⟨r - 1,by omega⟩;obtain⟨ad,rfl,_,c1⟩:=(hx.below hw).at (k:=k) (by omega);obtain⟨ae,rfl,_,c2⟩:=(hy.below hw).at (k:=k) hlt;have cs:=hb.cell (j:=k) (by simp[ha.1]);have cf:=hb.free k;have hadd:=c_h (nth xs k) (nth ys k) cr ha.2.2.1;have HA:=Lib.hid ha;have HK:=Lib.hid hkr;clear ha hkr
    go_wp2_with fail
    go_roundw
    case rel=>exact⟨k+1,by omega,by go_num,AddRel.next lx ly HA.out HK.out hb hw rfl⟩
    case measure=>simp[intOf];omega
   ·obtain rfl:k=ys.length:=by omega
    clear hlt
    go_wp2
    go_loopw [6,9] (fun s i wr=>∃k:Nat,ys.length<=k/\k<=xs.length/\i= .int .i64 k/\AddRel wc xs ys xs.length k s wr) (fun _ i _=>xs.length - (intOf i).toNat)
    case atStart=>exact⟨ys.length,Nat.le_refl _,by omega,rfl,cr,r,zs,ha,rfl,hkr,hb,hw⟩
    case round=>
     clear ha hkr hb hw;obtain⟨k,hk0,hk,rfl,cr,r,zs,ha,rfl,hkr,hb,hw⟩:=hrel;by_cases hlt:k<xs.length
     ·obtain⟨r,rfl⟩:∃q,r=q+1:=⟨r - 1,by omega⟩;obtain⟨ad,rfl,_,c1⟩:=(hx.below hw).at (k:=k) (by omega);have cs:=hb.cell (j:=k) (by simp[ha.1]);have cf:=hb.free k;have hadd:=d_p (nth xs k) cr ha.2.2.1;have h0:nth ys k=0:=c_c hk0;have HA:=Lib.hid ha;have HK:=Lib.hid hkr;have H0:=Lib.hid h0;clear ha hkr h0
      go_wp2_with fail
      go_roundw
      case rel=>
       have hn:=AddRel.next (s:=.int .u64 (((nth xs k+nth ys k+cr) / 18446744073709551616:Nat):Int)) lx ly HA.out HK.out hb hw rfl;rw[H0.out,Nat.add_zero]at hn;exact⟨k+1,by omega,by omega,by go_num,hn⟩
      case measure=>simp[intOf];omega
     ·obtain rfl:k=xs.length:=by omega
      obtain rfl:r=0:=by omega
      have cs:=hb.cell (j:=xs.length) (by simp[ha.1]);have cf:=hb.free xs.length;have hb2:=hb.set zs.length cr;rw[d_c,ha.1]at hb2;obtain⟨s1,s2,s3⟩:=ha.stop (by omega) (Nat.le_refl _) hk0;have S2:=Lib.hid s2;have S3:=Lib.hid s3;clear s2 s3 ha hkr hlt hb
      go_wp2_with fail
      simp only[List.replicate_zero,List.append_nil]at hb2;refine(a_d _ _ _ (zs++[cr]) _ hb2.rd0 S3.out (Nat.le_refl _) (by omega)).mono ?_;rintro e w' ⟨rfl,rfl⟩
      go_wp2
      go_ret
      exact h_h hb2 (Nat.le_refl _) (hw.setCell (Nat.le_refl _) _) S3.out (by omega) s1 (S2.out.trans HS.out)
end Go.Proofs.YtfhbdlegkdbmfaaGreat
namespace Go.Proofs
open Go.Shelf
def Tryz.laysMul64_ren:Go.Shelf.Ren:=⟨fun|264=>198|n=>n,fun|53=>85|46=>156|n=>n,fun|n=>n⟩
theorem Tryz.laysMul64:Go.Proofs.Lays.n264 Tryz.prog Tryz.laysMul64_ren:={
 mixed:=by kernel_rfl
 f264:=Tryz.func198.trans (congrArg some (by kernel_rfl))
 t46:=Tryz.underlying156
 a46:=Tryz.isAgg156
 z46:=Tryz.sizeOf156
 v46:=Tryz.zeroValue156
 t53:=Tryz.underlying85
 a53:=Tryz.isAgg85
 z53:=Tryz.sizeOf85
 v53:=Tryz.zeroValue85 }
end Go.Proofs
namespace Go.Proofs.YtfhbdlegkdbmfaaGreat
open Go.RowKit
def MulPost (x y:Nat)(w:World)(e:Ending)(w':World):Prop:=
 ∃hi lo:Nat,e= .returned (.tuple #[.int .u64 (hi:Int),.int .u64 (lo:Int)])/\hi*18446744073709551616+lo=x*y/\hi<=18446744073709551614/\lo<18446744073709551616/\w=w'
theorem b_5 (x y:Nat)(hx:x<18446744073709551616)(hy:y<18446744073709551616)(w:World):
  Calls Tryz.prog 198 #[.int .u64 x,.int .u64 y] w (MulPost x y w):=
 (Any.bits_Mul64 Tryz.laysMul64 x y hx hy w).mono fun _ _ ⟨he,hw⟩=>by
  have h1:x*y<=18446744073709551615*18446744073709551615:=Nat.mul_le_mul (by omega) (by omega);exact⟨x*y / 18446744073709551616,x*y%18446744073709551616,he,by omega,by omega,by omega,hw.symm⟩
theorem d_q (x y c:Nat)(hx:x<18446744073709551616)(hy:y<18446744073709551616)(hc:c<=1):
  ∃s o:Nat,(∀w,(callFunc 179 #[.int .u64 x,.int .u64 y,.int .u64 c]).run Tryz.prog w= .ok (.value (.tuple #[.int .u64 (s:Int),.int .u64 (o:Int)])) w)/\
   s+18446744073709551616*o=x+y+c/\s<18446744073709551616/\o<=1:=
 ⟨(x+y+c)%18446744073709551616,(x+y+c) / 18446744073709551616,c_h x y c hc,by omega,by omega,by omega⟩
theorem b_x (x y:Nat)(hx:x<18446744073709551616)(hy:y<18446744073709551616):
  ∃s o:Nat,(∀w,(callFunc 179 #[.int .u64 x,.int .u64 y,.int .u64 0]).run Tryz.prog w= .ok (.value (.tuple #[.int .u64 (s:Int),.int .u64 (o:Int)])) w)/\
   s+18446744073709551616*o=x+y/\s<18446744073709551616/\o<=1:=
 d_q x y 0 hx hy (by omega)
theorem k_6 {w wr:World}{g:Nat}(h:w.grownBy wr (some g))(j:Nat)(u:Value):w.grownBy (wr.setCell ⟨g,j,none⟩ u) (some g):=
 ⟨h.os,h.tape,h.output,by simpa using h.size,fun k hk hne=>(Below.heap_setCell wr ⟨g,j,none⟩ u k (fun e=>hne (by simp[e]))).trans (h.block k hk hne)⟩
def ApRel (w:World)(g off:Nat)(L xs:List Nat)(x k:Nat)(s:Value)(wr:World):Prop:=
 ∃(c:Nat) (zs:List Nat),Muling 18446744073709551616 (L.drop off) xs zs x k c/\s= .int .u64 c/\Blk wr g 85 .u64 (L.take off++zs++L.drop (off+k))/\w.grownBy wr (some g)/\wr.heap.size=w.heap.size
def ApPost (w:World)(g off:Nat)(L xs:List Nat)(x n:Nat)(e:Ending)(w':World):Prop:=
 ∃s,e= .returned s/\ApRel w g off L xs x n s w'
theorem s_a {m p hi lo c s1 o1 s2 o2:Nat}(h0:hi*18446744073709551616+lo=p)(h1:s1+18446744073709551616*o1=lo+c)(h2:s2+18446744073709551616*o2=m+s1):
  s2+18446744073709551616*(hi+o1+o2)=m+p+c:=by omega
theorem s_b {m a b hi lo c s1 o1 s2 o2:Nat}(ha:a<18446744073709551616)(hb:b<18446744073709551616)(hm:m<18446744073709551616)(hc:c<18446744073709551616)
  (h0:hi*18446744073709551616+lo=a*b) (h1:s1+18446744073709551616*o1=lo+c) (h2:s2+18446744073709551616*o2=m+s1):hi+o1+o2<18446744073709551616:=by
 have h3:a*b<=18446744073709551615*18446744073709551615:=Nat.mul_le_mul (by omega) (by omega);omega
theorem ApRel.next {w wr:World}{g off k c s2 c':Nat}{L xs zs:List Nat}{x:Nat}{s:Value}(hm:Muling 18446744073709551616 (L.drop off) xs zs x k c)
  (hbk:Blk wr g 85 .u64 (L.take off++zs++L.drop (off+k))) (hg:w.grownBy wr (some g)) (hz:wr.heap.size=w.heap.size) (hk:off+k<L.length)
  (h2:s2<18446744073709551616) (hc:c'<18446744073709551616) (he:s2+18446744073709551616*c'=nth L (off+k)+nth xs k*x+c) (hs:s= .int .u64 (c':Int)):
  ApRel w g off L xs x (k+1) s (wr.setCell ⟨g,off+k,none⟩ (.int .u64 (s2:Int))):=by
 have h:=hbk.set (off+k) s2;rw[o_1 hm.1 hk]at h;exact⟨c',_,hm.step h2 hc (by rw[a_5];exact he),hs,h,k_6 hg _ _,by simpa using hz⟩
theorem n_n (g off n cap d:Nat)(B:Option Addr)(L xs:List Nat)(x:Nat)(w:World)(hb:Blk w g 85 .u64 L)(hy:Rd w .u64 B xs)(hn:xs.length=n)
  (hB:∀ad,B=some ad->ad.block≠g) (hoff:off+n<=L.length) (lL:Low 18446744073709551616 L) (lx:Low 18446744073709551616 xs) (hx:x<18446744073709551616) (bn:L.length<=9223372036854775807):
  Calls Tryz.prog 178 #[.slice (some ⟨g,off,none⟩) n cap,.slice B n d,.int .u64 x] w (ApPost w g off L xs x n):=by
 have HN:=Lib.hid hn;clear hn;go_enter Tryz.func178,Tryz.ntmps178
 go_wp2
 go_loopw [7,15] (fun s i wr=>∃k:Nat,k<=n/\i= .int .i64 k/\ApRel w g off L xs x k s wr) (fun _ i _=>n - (intOf i).toNat)
 case atStart=>exact⟨0,Nat.zero_le _,rfl,0,[],Muling.start (by omega) _ _ _,rfl,by simpa using hb,⟨rfl,rfl,rfl,Nat.le_refl _,fun _ _ _=>rfl⟩,rfl⟩
 case round=>
  obtain⟨k,hk,rfl,c,zs,hm,rfl,hbk,hg,hz⟩:=hrel;by_cases hlt:k<n
  ·have hy':=hy.grown hg (fun ad ha=>by intro e;exact hB ad ha (Option.some.inj e));obtain⟨ad,rfl,_,c1⟩:=hy'.at (k:=k) (by have:=HN.out;omega);have cs:=hbk.cell (j:=off+k) (by rw[e_7 hm.1 (by omega)];omega);rw[p_k hm.1 (by omega)]at cs;have cf:=hbk.free (off+k);have b1:=lx.any (by omega) k;have b2:=lL.any (by omega) (off+k);have b3:=hm.2.2.1;have hm':=Lib.hid hm;have hz':=Lib.hid hz;clear hm hy' hz
   go_wp2_with fail
   refine(b_5 _ _ b1 hx _).mono ?_;rintro e w' ⟨hi,lo,rfl,h0,h1,h2,rfl⟩;obtain⟨s1,o1,f1,f2,f3,f4⟩:=b_x lo c h2 b3;obtain⟨s2,o2,g1,g2,g3,g4⟩:=b_x (nth L (off+k)) s1 b2 f3;have t1:=s_a h0 f2 g2;have t2:=s_b b1 hx b2 b3 h0 f2 g2;have T1:=Lib.hid t1;clear h0 f2 g2 t1
   go_wp2_with fail
   go_roundw
   case rel=>exact⟨k+1,by omega,by go_num,ApRel.next hm'.out hbk hg hz'.out (by omega) g3 t2 T1.out (by go_num)⟩
   case measure=>simp[intOf];omega
  ·obtain rfl:k=n:=by omega
   have hm':=Lib.hid hm;have hz':=Lib.hid hz;clear hm hlt hz
   go_wp2
   go_ret
   exact⟨_,rfl,c,zs,hm'.out,rfl,hbk,hg,hz'.out⟩
end Go.Proofs.YtfhbdlegkdbmfaaGreat
namespace Go.Proofs.YtfhbdlegkdbmfaaGreat
open Go.RowKit
theorem NatPost.nil (w:World){v:Nat}(hv:v=0):NatPost v w (.returned (.slice none 0 0)) w:=by
 subst hv;exact⟨none,0,rfl,Got.nil w _ _⟩
def MuRel (w:World)(xs ys:List Nat)(i:Nat)(wr:World):Prop:=
 ∃(r:Nat) (Z:List Nat),Product 18446744073709551616 xs ys Z i/\i+r=ys.length/\Blk wr w.heap.size 85 .u64 (Z++List.replicate r 0)/\Below w.heap.size w wr
theorem MuRel.next {w wr w1:World}{xs ys Z:List Nat}{i r:Nat}{s:Value}(hp:Product 18446744073709551616 xs ys Z i)(hir:i+(r+1)=ys.length)
  (hw:Below w.heap.size w wr)
  (ha:ApRel wr w.heap.size i (Z++List.replicate (r+1) 0) xs (nth ys i) xs.length s w1):
  ∃c:Nat,s= .int .u64 c/\(∃v,w1.cell? ⟨w.heap.size,i+xs.length,none⟩=some v)/\w1.frozen? ⟨w.heap.size,i+xs.length,none⟩=false/\
   MuRel w xs ys (i+1) (w1.setCell ⟨w.heap.size,i+xs.length,none⟩ (.int .u64 (c:Int))):=by
 obtain⟨c,zs,hm,rfl,hb,hg,hz⟩:=ha;have hzl:=hm.1;have hZl:=hp.1;have e1:(Z++List.replicate (r+1) 0).take i=Z.take i:=by rw[List.take_append_of_le_length (by omega)]
 have e2:(Z++List.replicate (r+1) 0).drop (i+xs.length)=List.replicate (r+1) 0:=by rw[List.drop_append,List.drop_eq_nil_of_le (by omega)];simp[hZl,Nat.add_comm]
 rw[e1,e2]at hb;have hl:(Z.take i++zs).length=i+xs.length:=by simp[hzl];omega
 have hs:=hb.set (i+xs.length) c;rw[<-hl,d_c,hl]at hs;have hbw:Below w.heap.size w w1:=hw.trans ⟨hg.os,hg.tape,hg.output,hg.size,fun k hk=>hg.block k (by have:=hw.size;omega) (by intro h;have:=Option.some.inj h;omega)⟩;refine⟨c,rfl,⟨_,hb.cell (by simp[hzl];omega)⟩,hb.free _,r,_,hp.step hm,by omega, ?_,hbw.setCell (Nat.le_refl _) _⟩;exact hs
theorem g_k (A B:Option Addr)(n m c d:Nat)(xs ys:List Nat)(w:World)(hx:Rd w .u64 A xs)(hy:Rd w .u64 B ys)(hxn:xs.length=n)(hyn:ys.length=m)
  (hc:n<=c) (hc':c<=9223372036854775807) (hd:m<=d) (hd':d<=9223372036854775807) (lx:Low 18446744073709551616 xs) (ly:Low 18446744073709551616 ys)
  (bx:n<=1099511627776) (bY:m<=1099511627776):
  Calls Tryz.prog 144 #[.slice A n c,.slice B m d] w (NatPost (ev 18446744073709551616 xs*ev 18446744073709551616 ys) w):=by
 have sx:sl xs<=n:=hxn ▸ a_4 xs;have sy:sl ys<=m:=hyn ▸ a_4 ys;have HX:=Lib.hid hxn;have HY:=Lib.hid hyn;clear hxn hyn;go_enter Tryz.func144,Tryz.ntmps144
 go_wp2_with fail
 refine(a_d _ _ _ xs _ hx HX.out (by omega) (by omega)).mono ?_;rintro e w' ⟨rfl,rfl⟩
 go_wp2_with fail
 refine(a_d _ _ _ ys _ hy HY.out (by omega) (by omega)).mono ?_;rintro e w' ⟨rfl,rfl⟩;go_upto_if 16 with fail
 go_cut [0,1] (AddCut w (fun x y=>x*y=ev 18446744073709551616 xs*ev 18446744073709551616 ys))
 case first=>
  by_cases h:sl xs<sl ys
  ·go_wp2
   go_meet
   exact AddCut.mk hy hx (by omega) (by omega) ly lx (Nat.mul_comm _ _)
  ·go_wp2
   go_meet
   exact AddCut.mk hx hy (by omega) (by omega) lx ly rfl
 case rest=>
  clear hx hy lx ly sx sy HX HY hc hc' hd hd' bx bY;obtain⟨A,B,c,d,xs,ys,rfl,rfl,hx,hy,hle,hmx,lx,ly,hS,rfl⟩:=hcut;have HS:=Lib.hid hS;clear hS;by_cases h0:ys.length=0
  ·have e0:=HS.out;rw[List.length_eq_zero_iff.1 h0,r_z,Nat.mul_zero]at e0;have E0:=Lib.hid e0;have b0:(((ys.length:Nat):Int)==0)=true:=by rw[beq_iff_eq];omega
   clear e0 h0
   go_wp2
   go_ret
   exact NatPost.nil _ E0.out.symm
  ·have b0:(((ys.length:Nat):Int)==0)=false:=by rw[beq_eq_false_iff_ne];omega
   have hpos:0<ys.length:=by omega
   clear h0
   go_wp2_with (at_make;refine a_e _ rfl _ _ 29 rfl 85 .u64 8 Tryz.underlying29 info_u64 _ _ _ _ (xs.length+ys.length) rfl rfl (by omega) (by omega) (by omega) (by omega) ?_)
   intro w1 hb1 hw1 hz1;have HZ:=Lib.hid hz1;clear hz1
   go_wp2
   go_loopw [30] (fun i wr=>∃k:Nat,k<=ys.length/\i= .int .i64 k/\MuRel wc xs ys k wr) (fun i _=>ys.length - (intOf i).toNat)
   case atStart=>exact⟨0,Nat.zero_le _,rfl,ys.length,_,Product.start (by omega) xs ys,by omega,by simpa using hb1,hw1⟩
   case round=>
    obtain⟨i,hi,rfl,r,Z,hp,hir,hb,hw⟩:=hrel;by_cases hlt:i<ys.length
    ·obtain⟨r,rfl⟩:∃q,r=q+1:=⟨r - 1,by omega⟩;obtain⟨ae,rfl,_,c2⟩:=(hy.below hw).at (k:=i) hlt;have HP:=Lib.hid hp;have HI:=Lib.hid hir;clear hp hir;have hA:∀ad,A=some ad->ad.block≠wc.heap.size:=fun ad ha=>by
      obtain⟨ad',e',hb',_⟩:=hx (by omega);rw[e']at ha;obtain rfl:=Option.some.inj ha;omega
     have hL:i+xs.length<=(Z++List.replicate (r+1) 0).length:=by have:=HP.out.1;simp;omega
     have hM:(Z++List.replicate (r+1) 0).length<=9223372036854775807:=by have:=HP.out.1;have:=HI.out;simp;omega
     have HA:=Lib.hid hA;clear hA
     go_wp2_with fail
     refine(n_n _ i _ _ _ _ (Z++List.replicate (r+1) 0) xs (nth ys i) _ hb (hx.below hw) rfl HA.out hL (HP.out.2.1.append (Low.replicate _ _ (by omega))) lx (ly.any (by omega) i) hM).mono ?_;rintro e w2 ⟨s,rfl,hap⟩;obtain⟨c0,rfl,⟨v0,hcell⟩,hfree,hnext⟩:=MuRel.next HP.out HI.out hw hap;clear hap hL hM hb
     go_wp2
     go_roundw
     case rel=>exact⟨i+1,by omega,by go_num,hnext⟩
     case measure=>simp[intOf];omega
    ·obtain rfl:i=ys.length:=by omega
     obtain rfl:r=0:=by omega
     have hS':=hp.stop (Nat.le_refl _);have lZ:=hp.2.1;have nZ:=hp.1;have HS':=Lib.hid hS';have HN:=Lib.hid nZ;simp only[List.replicate_zero,List.append_nil]at hb;clear hp hir hlt hS' nZ
     go_wp2_with fail
     refine(a_d _ _ _ Z _ hb.rd0 HN.out (Nat.le_refl _) (by omega)).mono ?_;rintro e w' ⟨rfl,rfl⟩
     go_wp2
     go_ret
     exact h_h hb (Nat.le_refl _) hw HN.out (by omega) lZ (HS'.out.trans HS.out)
end Go.Proofs.YtfhbdlegkdbmfaaGreat
namespace Go.Proofs.YtfhbdlegkdbmfaaGreat
open Go.RowKit
def Nv (w:World)(A:Option Addr)(n c v:Nat):Prop:=
 ∃xs,Rd w .u64 A xs/\xs.length=n/\n<=c/\c<=9223372036854775807/\Low 18446744073709551616 xs/\ev 18446744073709551616 xs=v
theorem Nv.below {w w':World}{A:Option Addr}{n c v:Nat}(h:Nv w A n c v)(hb:Below w.heap.size w w'):Nv w' A n c v:=by
 obtain⟨xs,h1,h2⟩:=h;exact⟨xs,h1.below hb,h2⟩
theorem Nv.lt {w:World}{A:Option Addr}{n c v:Nat}(h:Nv w A n c v):v<18446744073709551616^n:=by
 obtain⟨xs,h1,h2,h3,h4,h5,h6⟩:=h;subst h2 h6;exact b_y h5
theorem Nv.nil (w:World):Nv w none 0 0 0:=⟨[],Rd.nil _ _ _,rfl,Nat.le_refl _,by omega,Low.nil _,rfl⟩
theorem f_n {n k:Nat}(h:n<=k):(18446744073709551616:Nat)^n<=18446744073709551616^k:=Nat.pow_le_pow_right (by omega) h
theorem r_5 {A B:Option Addr}{n m c d x y:Nat}{w:World}(hx:Nv w A n c x)(hy:Nv w B m d y):
  Calls Tryz.prog 109 #[.slice A n c,.slice B m d] w fun e w'=>e= .returned (.int .i64 (cmpN x y))/\Sees w w':=by
 obtain⟨xs,h1,h2,h3,h4,h5,rfl⟩:=hx;obtain⟨ys,g1,g2,g3,g4,g5,rfl⟩:=hy;exact l_q A B n m c d xs ys w h1 g1 h2 g2 h3 h4 g3 g4 h5 g5
theorem cmp_same_v {A B:Option Addr}{n m c d x y:Nat}{w:World}(hx:Nv w A n c x)(hy:Nv w B m d y)(h:x=y):
  Calls Tryz.prog 109 #[.slice A n c,.slice B m d] w fun e w'=>e= .returned (.int .i64 0)/\Below w.heap.size w w':=
 (r_5 hx hy).mono fun _ _ ⟨he,hw⟩=>⟨by rw[he,e_v h],hw.below _⟩
end Go.Proofs.YtfhbdlegkdbmfaaGreat
namespace Go.Proofs.YtfhbdlegkdbmfaaGreat
open Go.RowKit
theorem j_6 (x y c:Nat)(hc:c<=1)(w:World):
  (callFunc 187 #[.int .u64 x,.int .u64 y,.int .u64 c]).run Tryz.prog w=
   .ok (.value (.tuple #[.int .u64 (((x+18446744073709551616 - y - c)%18446744073709551616:Nat):Int),.int .u64 ((if x<y+c then 1 else 0:Nat):Int)])) w:=by
 rw[run_callFunc_extern Tryz.func187 (by kernel_rfl) (by kernel_rfl) (by kernel_rfl) (e:=sub64Entry) (by kernel_rfl),run_sub64 x y c hc];rfl
theorem b_z (x y c:Nat)(hx:x<18446744073709551616)(hy:y<18446744073709551616)(hc:c<=1):
  ∃s o:Nat,(∀w,(callFunc 187 #[.int .u64 x,.int .u64 y,.int .u64 c]).run Tryz.prog w= .ok (.value (.tuple #[.int .u64 (s:Int),.int .u64 (o:Int)])) w)/\
   s+y+c=x+18446744073709551616*o/\s<18446744073709551616/\o<=1:=by
 refine⟨_,_,j_6 x y c hc, ?_,by omega, ?_⟩<;>split<;>omega
theorem e_b (x c:Nat)(hx:x<18446744073709551616)(hc:c<=1):
  ∃s o:Nat,(∀w,(callFunc 187 #[.int .u64 x,.int .u64 0,.int .u64 c]).run Tryz.prog w= .ok (.value (.tuple #[.int .u64 (s:Int),.int .u64 (o:Int)])) w)/\
   s+0+c=x+18446744073709551616*o/\s<18446744073709551616/\o<=1:=
 b_z x 0 c hx (by omega) hc
def SubPost (x y:Nat)(w:World)(e:Ending)(w':World):Prop:=
 ∃A c zs,e= .returned (.tuple #[.slice A (List.length zs) c,.bool (decide (y<=x))])/\Got w w' 85 .u64 A c zs/\zs=if y<=x then cn 18446744073709551616 (x - y)else[]
theorem SubPost.no {x y:Nat}{w w':World}(h:x<y)(hb:Below w.heap.size w w'):SubPost x y w (.returned (.tuple #[.slice none 0 0,.bool false])) w':=
 ⟨none,0,[],by rw[decide_eq_false (by omega)];rfl,Got.nil' _ _ hb,by rw[if_neg (by omega)]⟩
theorem SubPost.yes {x y g n:Nat}{w w':World}{zs:List Nat}(h:y<=x/\ev 18446744073709551616 zs=x - y)(hb:Blk w' g 85 .u64 zs)(hg:w.heap.size<=g)(hw:Below w.heap.size w w')(hn:zs.length=n)(hm:n<=9223372036854775807)
  (hl:Low 18446744073709551616 zs):SubPost x y w (.returned (.tuple #[.slice (some ⟨g,0,none⟩) (sl zs) n,.bool true])) w':=by
 subst hn;refine⟨_,_,cn 18446744073709551616 (x - y), ?_,h.2 ▸ c_l (by omega) hb hg hw hm hl,by rw[if_pos h.1]⟩;rw[decide_eq_true h.1,c_p _ (by omega) hl,h.2]
def SubRel (w:World)(xs ys:List Nat)(n k:Nat)(s:Value)(wr:World):Prop:=
 ∃(c r:Nat) (zs:List Nat),Subbing 18446744073709551616 xs ys zs k c/\s= .int .u64 c/\k+r=n/\Blk wr w.heap.size 85 .u64 (zs++List.replicate r 0)/\Below w.heap.size w wr
theorem SubRel.next {w wr:World}{xs ys zs:List Nat}{n k c r d c':Nat}{s:Value}(ha:Subbing 18446744073709551616 xs ys zs k c)
  (hn:k+(r+1)=n) (hb:Blk wr w.heap.size 85 .u64 (zs++List.replicate (r+1) 0)) (hw:Below w.heap.size w wr)
  (hd:d<18446744073709551616) (hc:c'<=1) (he:d+nth ys k+c=nth xs k+18446744073709551616*c') (hs:s= .int .u64 (c':Int)):
  SubRel w xs ys n (k+1) s (wr.setCell ⟨w.heap.size,k,none⟩ (.int .u64 (d:Int))):=by
 have h:=hb.set zs.length d;rw[d_c,ha.1]at h;exact⟨_,r,_,ha.step hd hc he,hs,by omega,h,hw.setCell (Nat.le_refl _) _⟩
theorem g_a (A B:Option Addr)(n m c d:Nat)(xs ys:List Nat)(w:World)(hx:Rd w .u64 A xs)(hy:Rd w .u64 B ys)(hxn:xs.length=n)(hyn:ys.length=m)
  (hc:n<=c) (hc':c<=9223372036854775807) (hd:m<=d) (hd':d<=9223372036854775807) (lx:Low 18446744073709551616 xs) (ly:Low 18446744073709551616 ys)
  (bx:n<=1099511627776):
  Calls Tryz.prog 156 #[.slice A n c,.slice B m d] w (SubPost (ev 18446744073709551616 xs) (ev 18446744073709551616 ys) w):=by
 have sx:sl xs<=n:=hxn ▸ a_4 xs;have sy:sl ys<=m:=hyn ▸ a_4 ys;have HX:=Lib.hid hxn;have HY:=Lib.hid hyn;clear hxn hyn;by_cases h:sl xs<sl ys
 ·have e:=h_v (by omega) lx ly h;have E:=Lib.hid e;clear e;go_enter Tryz.func156,Tryz.ntmps156
  go_wp2_with fail
  refine(a_d _ _ _ xs _ hx HX.out (by omega) (by omega)).mono ?_;rintro e w' ⟨rfl,rfl⟩
  go_wp2_with fail
  refine(a_d _ _ _ ys _ hy HY.out (by omega) (by omega)).mono ?_;rintro e w' ⟨rfl,rfl⟩
  go_wp2
  go_ret2
  exact SubPost.no E.out (Below.refl _ _)
 ·rw[<-a_n _ xs,<-a_n _ ys];obtain⟨us,hus⟩:∃us,us=xs.take (sl xs):=⟨_,rfl⟩;obtain⟨vs,hvs⟩:∃vs,vs=ys.take (sl ys):=⟨_,rfl⟩;have hux:Rd w .u64 A us:=hus ▸ hx.take _;have hvy:Rd w .u64 B vs:=hvs ▸ hy.take _;have lu:Low 18446744073709551616 us:=hus ▸ lx.take _;have lv:Low 18446744073709551616 vs:=hvs ▸ ly.take _;have eu:sl xs=us.length:=by rw[hus];simp[Nat.min_eq_left (a_4 xs)]
  have el:sl ys=vs.length:=by rw[hvs];simp[Nat.min_eq_left (a_4 ys)]
  rw[<-hus,<-hvs];have hle:vs.length<=us.length:=by omega
  have hmx:us.length<=1099511627776:=by omega
  have EU:=Lib.hid eu;have EL:=Lib.hid el;clear hus hvs eu el h;go_enter Tryz.func156,Tryz.ntmps156
  go_wp2_with fail
  refine(a_d _ _ _ xs _ hx HX.out (by omega) (by omega)).mono ?_;rintro e w' ⟨rfl,rfl⟩
  go_wp2_with fail
  refine(a_d _ _ _ ys _ hy HY.out (by omega) (by omega)).mono ?_;rintro e w' ⟨rfl,rfl⟩;rw[EU.out,EL.out];clear hx hy lx ly sx sy HX HY hc hc' hd hd' bx EU EL
  go_wp2_with (at_make;refine a_e _ rfl _ _ 29 rfl 85 .u64 8 Tryz.underlying29 info_u64 _ _ _ _ us.length rfl rfl (by omega) (by omega) (by omega) (by omega) ?_)
  intro w1 hb1 hw1 hz1;have HZ:=Lib.hid hz1;clear hz1
  go_wp2
  go_loopw [7,25] (fun s i wr=>∃k:Nat,k<=vs.length/\i= .int .i64 k/\SubRel w us vs us.length k s wr) (fun _ i _=>vs.length - (intOf i).toNat)
  case atStart=>exact⟨0,Nat.zero_le _,rfl,0,us.length,[],Subbing.start _ _ _,rfl,by omega,hb1,hw1⟩
  case round=>
   obtain⟨k,hk,rfl,cr,r,zs,ha,rfl,hkr,hb,hw⟩:=hrel;by_cases hlt:k<vs.length
   ·obtain⟨r,rfl⟩:∃q,r=q+1:=⟨r - 1,by omega⟩;obtain⟨ad,rfl,_,c1⟩:=(hux.below hw).at (k:=k) (by omega);obtain⟨ae,rfl,_,c2⟩:=(hvy.below hw).at (k:=k) hlt;have cs:=hb.cell (j:=k) (by simp[ha.1]);have cf:=hb.free k;obtain⟨s1,o1,f1,f2,f3,f4⟩:=b_z (nth us k) (nth vs k) cr (lu.any (by omega) k) (lv.any (by omega) k) ha.2.2.1;have HA:=Lib.hid ha;have HK:=Lib.hid hkr;have F2:=Lib.hid f2;clear ha hkr f2
    go_wp2_with fail
    go_roundw
    case rel=>exact⟨k+1,by omega,by go_num,SubRel.next HA.out HK.out hb hw f3 f4 F2.out rfl⟩
    case measure=>simp[intOf];omega
   ·obtain rfl:k=vs.length:=by omega
    clear hlt
    go_wp2
    go_loopw [7,10] (fun s i wr=>∃k:Nat,vs.length<=k/\k<=us.length/\i= .int .i64 k/\SubRel w us vs us.length k s wr) (fun _ i _=>us.length - (intOf i).toNat)
    case atStart=>exact⟨vs.length,Nat.le_refl _,by omega,rfl,cr,r,zs,ha,rfl,hkr,hb,hw⟩
    case round=>
     clear ha hkr hb hw;obtain⟨k,hk0,hk,rfl,cr,r,zs,ha,rfl,hkr,hb,hw⟩:=hrel;by_cases hlt:k<us.length
     ·obtain⟨r,rfl⟩:∃q,r=q+1:=⟨r - 1,by omega⟩;obtain⟨ad,rfl,_,c1⟩:=(hux.below hw).at (k:=k) (by omega);have cs:=hb.cell (j:=k) (by simp[ha.1]);have cf:=hb.free k;obtain⟨s1,o1,f1,f2,f3,f4⟩:=e_b (nth us k) cr (lu.any (by omega) k) ha.2.2.1;have h0:nth vs k=0:=c_c hk0;rw[<-h0]at f2;have HA:=Lib.hid ha;have HK:=Lib.hid hkr;have F2:=Lib.hid f2;clear ha hkr f2 h0
      go_wp2_with fail
      go_roundw
      case rel=>exact⟨k+1,by omega,by omega,by go_num,SubRel.next HA.out HK.out hb hw f3 f4 F2.out rfl⟩
      case measure=>simp[intOf];omega
     ·obtain rfl:k=us.length:=by omega
      obtain rfl:r=0:=by omega
      simp only[List.replicate_zero,List.append_nil]at hb;rcases Nat.eq_zero_or_pos cr with rfl|hpos
      ·have hf:=ha.fits (Nat.le_refl _) hk0;have HF:=Lib.hid hf;have hn:=ha.1;have HN:=Lib.hid hn;have lz:=ha.2.1;clear ha hkr hlt hf hn
       go_wp2_with fail
       refine(a_d _ _ _ zs _ hb.rd0 HN.out (Nat.le_refl _) (by omega)).mono ?_;rintro e w' ⟨rfl,rfl⟩
       go_wp2
       go_ret2
       exact SubPost.yes HF.out hb (Nat.le_refl _) hw HN.out (by omega) lz
      ·obtain rfl:cr=1:=by have:=ha.2.2.1;omega
       have hf:=ha.lacks (Nat.le_refl _) hk0;have HF:=Lib.hid hf;clear ha hkr hlt hf hpos
       go_wp2
       go_ret2
       exact SubPost.no HF.out hw
end Go.Proofs.YtfhbdlegkdbmfaaGreat
namespace Go.Proofs.YtfhbdlegkdbmfaaGreat
open Go.RowKit
theorem e_0 {cur cs:List Value}(h:cs.length=cur.length):splice cur 0 cs=cs:=by
 simp[splice,h]
theorem e_5 (A:Option Addr)(n c:Nat)(xs:List Nat)(w:World)(hx:Rd w .u64 A xs)(hxn:xs.length=n)
  (hc:n<=c) (hc':c<=9223372036854775807) (lx:Low 18446744073709551616 xs) (bx:n<=1099511627776):
  Calls Tryz.prog 117 #[.slice A n c] w (NatPost (ev 18446744073709551616 xs) w):=by
 have sx:sl xs<=n:=hxn ▸ a_4 xs;have HX:=Lib.hid hxn;have ht:=j_i 18446744073709551616 (by omega) xs lx;have hl:(xs.take (sl xs)).length=sl xs:=by simp[Nat.min_eq_left (a_4 xs)]
 have HT:=Lib.hid ht;have HL:=Lib.hid hl;clear hxn ht hl;go_enter Tryz.func117,Tryz.ntmps117
 go_wp2_with fail
 refine(a_d _ _ _ xs _ hx HX.out (by omega) (by omega)).mono ?_;rintro e w' ⟨rfl,rfl⟩
 go_wp2_with (at_make;refine a_e _ rfl _ _ 29 rfl 85 .u64 8 Tryz.underlying29 info_u64 _ _ _ _ (sl xs) rfl rfl (by omega) (by omega) (by omega) (by omega) ?_)
 intro w1 hb1 hw1 hz1;have HZ:=Lib.hid hz1;clear hz1
 go_wp2_with (refine wpList_copy_splice rfl (.tmp 9) (.tmp 10) _ _ rfl 85 Tryz.underlying29 (by kernel_rfl) (some ⟨w.heap.size,0,none⟩) A (sl xs) (sl xs) (sl xs) c rfl rfl w.heap.size 0 (vs .u64 (List.replicate (sl xs) 0)) 85 hb1 (vs .u64 (xs.take (sl xs))) ?_ ?_ ?_ (j_z _ _) w.heap.size w hw1 (Nat.le_refl _) ?_)
 ·rw[a_f,HL.out];simp
 ·intro hp;rw[a_f]at hp;obtain⟨ad,h1,_,h3⟩:=((hx.take (sl xs)).below hw1) hp;exact⟨ad,h1,fun j v hv=>by
   rcases Nat.lt_or_ge j (xs.take (sl xs)).length with hj|hj
   ·rw[c_e hj]at hv;rw[h3 j hj,hv]
   ·rw[List.getElem?_eq_none (by rw[a_f];exact hj)]at hv;cases hv⟩
 ·rw[a_f,a_f,HL.out];simp
 ·intro w2 hb2 hw2
  go_wp2
  go_ret
  have hb3:Blk w2 w.heap.size 85 .u64 (xs.take (sl xs)):=by
   have:=hb2.out;rw[e_0 (by rw[a_f,a_f,HL.out];simp)]at this;exact this
  have ho:=hb3.owns (n:=sl xs) (Nat.le_refl _) (by rw[HL.out];exact Nat.le_refl _) (by rw[HL.out];unfold maxLen;omega);rw[HL.out,List.take_take,Nat.min_self]at ho;refine⟨some ⟨w.heap.size,0,none⟩,sl xs,by rw[HT.out,HL.out];rfl, ?_,hw2⟩;rw[HT.out,HL.out];exact ho
end Go.Proofs.YtfhbdlegkdbmfaaGreat
namespace Go.Proofs.YtfhbdlegkdbmfaaGreat
open Go.RowKit
def IsRow (k:IntKind)(w:World)(a:Option Addr)(len cap:Nat)(zs:List Int):Prop:=
 (a=none/\len=0/\cap=0/\zs=[])\/
 ∃x,a=some x/\len<=cap/\cap<=maxLen/\zs.length=cap/\(∀i,i<zs.length->w.cell? (x.add i)=some (.int k (zs.getD i 0)))/\∀n∈zs,(Lit.int k n).wf=true
theorem q_s {n:Int}(h:(Lit.int .u64 n).wf=true):0<=n/\n<18446744073709551616:=by
 have:=bounds_u64 h;omega
theorem IsRow.list {w:World}{a:Option Addr}{len cap:Nat}{zs:List Int}(h:IsRow .u64 w a len cap zs):
  ∃xs,Rd w .u64 a xs/\xs.length=len/\len<=cap/\cap<=9223372036854775807/\Low 18446744073709551616 xs:=by
 rcases h with⟨rfl,rfl,rfl,rfl⟩|⟨x,rfl,hl,hm,hz,hc,hw⟩
 ·exact⟨[],Rd.nil _ _ _,rfl,Nat.le_refl _,by omega,Low.nil _⟩
 ·have hn:∀i,i<len->zs.getD i 0=((nth ((zs.take len).map Int.toNat) i:Nat):Int)/\nth ((zs.take len).map Int.toNat) i<18446744073709551616:=by
   intro i hi;have h1:i<zs.length:=by omega
   have h2:=q_s (hw zs[i] (List.getElem_mem h1));have h3:nth ((zs.take len).map Int.toNat) i=(zs[i]).toNat:=by simp[nth,List.getD,hi,h1]
   rw[h3];have h4:zs.getD i 0=zs[i]:=by simp[List.getD,h1]
   rw[h4];omega
  have hlen:((zs.take len).map Int.toNat).length=len:=by simp;omega
  refine⟨(zs.take len).map Int.toNat,fun hp=>⟨x,rfl, ?_,fun j hj=>?_⟩,hlen,hl,by unfold maxLen at hm;omega,fun j hj=>(hn j (by omega)).2⟩
  ·have:=World.block_lt_of_cell? w (x.add 0) (hc 0 (by omega));rwa [a_b]at this
  ·rw[hc j (by omega),(hn j (by omega)).1]
theorem IsRow.nv {w:World}{a:Option Addr}{len cap:Nat}{zs:List Int}(h:IsRow .u64 w a len cap zs):∃v,Nv w a len cap v:=by
 obtain⟨xs,h1,h2,h3,h4,h5⟩:=h.list;exact⟨_,xs,h1,h2,h3,h4,h5,rfl⟩
end Go.Proofs.YtfhbdlegkdbmfaaGreat
namespace Go.Proofs.YtfhbdlegkdbmfaaGreat
open Go.RowKit Go.ChangeShapes Go.WideShapes
section
variable {H:Type}{enc:TypeId × Value->H}{P:Program}{W:World}{base:Nat}{sp:Nat->Bool}{held:Bool}
end
end Go.Proofs.YtfhbdlegkdbmfaaGreat
namespace Go.Proofs.YtfhbdlegkdbmfaaGreat
open Go.RowKit
theorem l_r {A B:Option Addr}{n m c d x y:Nat}{r:Int}{w:World}(hx:Nv w A n c x)(hy:Nv w B m d y)(h:cmpN x y=r):
  Calls Tryz.prog 109 #[.slice A n c,.slice B m d] w fun e w'=>e= .returned (.int .i64 r)/\Below w.heap.size w w':=
 (r_5 hx hy).mono fun _ _ ⟨he,hw⟩=>⟨by rw[he,h],hw.below _⟩
end Go.Proofs.YtfhbdlegkdbmfaaGreat
