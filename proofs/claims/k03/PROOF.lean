import PyProof.Rows.All
import Wide.All
import OpenK.AllK
import Wide.FinOn
import Lean
import PyProof.EqAt
import PyProof.EqKinds
import PyProof.TupleCall
import PySem.Challenge.RW_earworks_k03_whole_turned
section
set_option Elab.async false
set_option linter.all false
set_option maxRecDepth 100000
namespace L2
open PySem PySem.Spec PyProof.Rows
abbrev Key:=Sum Int Str
def keyIs:Key→Value→Bool
 | .inl k,v=>Value.isInt k v
 | .inr x,v=>Value.isStrOf x v
def keyH (w:World):Key→Int
 | .inl k=>hashInt k
 | .inr x=>hashStr w x
theorem bv:∀ {k:Key} {v:Value},keyIs k v=true→(∃ i t,k=Sum.inl i∧v=Value.int i t)∨(∃ x t,k=Sum.inr x∧v=Value.str x t)
 | .inl i,v,h=>by
  obtain ⟨t,e⟩:=Value.isInt_shape (k:=i) (v:=v) h
  exact .inl ⟨i,t,rfl,e⟩
 | .inr x,v,h=>by
  obtain ⟨t,e⟩:=Value.isStrOf_shape (x:=x) (v:=v) h
  exact .inr ⟨x,t,rfl,e⟩
theorem key_ll (a b:Int):decide ((Sum.inl a:Key)=Sum.inl b)=(a==b):=by
 by_cases e:a=b
 ·
  subst e;simp
 ·
  have h:¬(Sum.inl a:Key)=Sum.inl b:=fun q=>e (Sum.inl.inj q)
  rw [decide_eq_false h]
  exact (beq_eq_false_iff_ne.mpr e).symm
theorem key_rr (a b:Str):decide ((Sum.inr a:Key)=Sum.inr b)=decide (a=b):=by
 by_cases e:a=b
 ·
  subst e;simp
 ·
  have h:¬(Sum.inr a:Key)=Sum.inr b:=fun q=>e (Sum.inr.inj q)
  rw [decide_eq_false h,decide_eq_false e]
theorem key_lr (a:Int) (b:Str):decide ((Sum.inl a:Key)=Sum.inr b)=false:=decide_eq_false (fun q=>nomatch q)
theorem key_rl (a:Str) (b:Int):decide ((Sum.inr a:Key)=Sum.inl b)=false:=decide_eq_false (fun q=>nomatch q)
def mixKind (prog:Program) (w:World):PySem.KeyKind prog w Key where
 is:=keyIs
 hash:=keyH w
 inj:=fun v a b ha hb=>by
  rcases bv ha with ⟨i,t,rfl,rfl⟩ | ⟨x,t,rfl,rfl⟩
  ·
   rcases bv hb with ⟨j,u,rfl,e⟩ | ⟨y,u,rfl,e⟩
   ·
    injection e with e1 _;rw [e1]
   ·
    exact nomatch e
  ·
   rcases bv hb with ⟨j,u,rfl,e⟩ | ⟨y,u,rfl,e⟩
   ·
    exact nomatch e
   ·
    injection e with e1 _;rw [e1]
 byValue:=fun k v h=>by
  rcases bv h with ⟨i,t,rfl,rfl⟩ | ⟨x,t,rfl,rfl⟩ <;> rfl
 pyHash:=fun hv h=>by
  rcases bv hv with ⟨i,t,rfl,rfl⟩ | ⟨x,t,rfl,rfl⟩
  ·
   exact wpAny_pyHash_int h
  ·
   exact wpAny_pyHash_str h
 eqBool:=fun hu hv h=>by
  rcases bv hu with ⟨i,t,rfl,rfl⟩ | ⟨x,t,rfl,rfl⟩
  ·
   rcases bv hv with ⟨j,u,rfl,rfl⟩ | ⟨y,u,rfl,rfl⟩
   ·
    rw [key_ll] at h;exact wpAny_eqBool_int h
   ·
    rw [key_lr] at h;exact SeqAt.EqAt.int_str i t y u _ _ _ _ h
  ·
   rcases bv hv with ⟨j,u,rfl,rfl⟩ | ⟨y,u,rfl,rfl⟩
   ·
    rw [key_rl] at h;exact SeqAt.EqAt.str_int x t j u _ _ _ _ h
   ·
    rw [key_rr] at h;exact wpAny_eqBool_str h
 «strs»:=fun k x t v h=>by
  rcases bv h with ⟨i,u,rfl,e⟩ | ⟨y,u,rfl,e⟩
  ·
   exact nomatch e
  ·
   injection e with e1 _
   subst e1
   cases v <;> rfl
end L2
namespace L2
open PySem PySem.Spec PyProof.Rows
inductive V where
 | non | bl (b:Bool) | int (i:Int) | str (x:Str) | byt (b:Array UInt8) | flt (b:UInt64) | ref (a:Addr) | ty (n:String)
 deriving DecidableEq
def RelV:V→Value→Prop
 | .non,u=>u=Value.none
 | .bl b,u=>u=Value.bool b
 | .int i,u=>∃ t,u=Value.int i t
 | .str x,u=>∃ t,u=Value.str x t
 | .byt b,u=>∃ t,u=Value.bytes b t
 | .flt b,u=>∃ t,u=Value.float b t
 | .ref a,u=>u=Value.ref a
 | .ty n,u=>u=Value.type n
abbrev aF:List V→List Value→Prop:=Paired RelV
theorem aF.length {xs:List V} {us:List Value} (r:aF xs us):xs.length=us.length:=Paired.length r
theorem aF.get:∀ {xs:List V} {us:List Value} {i:Nat} {x:V},aF xs us→xs[i]?=some x→∃ u,us[i]?=some u∧RelV x u
 | _,_,_,_,.nil,e=>by simp at e
 | _,_,0,_,.cons r _,e=>by simp at e;subst e;exact ⟨_,rfl,r⟩
 | _,_,i+1,x,.cons _ t,e=>by
  obtain ⟨u,h1,h2⟩:=aF.get (i:=i) (x:=x) t (by simpa using e)
  exact ⟨u,by simpa using h1,h2⟩
theorem aF.set {x:V} {u:Value} (r:RelV x u):∀ {xs:List V} {us:List Value} (i:Nat),aF xs us→aF (xs.set i x) (us.set i u)
 | _,_,_,.nil=>.nil
 | _,_,0,.cons _ t=>.cons r t
 | _,_,i+1,.cons q t=>.cons q (aF.set r i t)
theorem aF.append:∀ {xs ys:List V} {us ws:List Value},aF xs us→aF ys ws→aF (xs++ys) (us++ws)
 | _,_,_,_,.nil,s=>s
 | _,_,_,_,.cons r t,s=>.cons r (aF.append t s)
theorem aF.take:∀ {xs:List V} {us:List Value} (n:Nat),aF xs us→aF (xs.take n) (us.take n)
 | _,_,0,_=>.nil
 | _,_,_+1,.nil=>.nil
 | _,_,n+1,.cons r t=>.cons r (aF.take n t)
theorem aF.drop:∀ {xs:List V} {us:List Value} (n:Nat),aF xs us→aF (xs.drop n) (us.drop n)
 | _,_,0,r=>r
 | _,_,_+1,.nil=>.nil
 | _,_,n+1,.cons _ t=>aF.drop n t
def RelO:Option V→Option Value→Prop
 | some v,some u=>RelV v u
 | none,none=>True
 | _,_=>False
def KV {κ:Type}:List (κ×V)→List (κ×Value)→Prop:=Paired fun (p:κ×V) (q:κ×Value)=>p.1=q.1∧RelV p.2 q.2
def kV:Key→V
 | .inl i=>.int i
 | .inr x=>.str x
inductive HO where
 | lst (xs:List V)
 | tup (xs:List V)
 | dK (kvs:List (Key×V)) | dT (kvs:List (List Key×V))
 | set (S:Int→Bool) (n:Nat)
 | ins (C dx:Addr) (fs:List (Str×V))
 | own (x:Addr)
 | xd (fs:List (Str×V))
 | met (f x:Addr)
 | rng (lo hi:Int)
 | frz (o:Obj) (u:HO)
 | tbl (ps:Array Value)
 | ext (φ:Heap→Prop)
abbrev Hp:=Addr→Option HO
def upd (H:Hp) (a:Addr) (o:HO):Hp:=fun b=>if b=a then some o else H b
theorem aA {H:Hp} {a:Addr} {o:HO}:upd H a o a=some o:=by unfold upd;rw [if_pos rfl]
theorem aB {H:Hp} {a b:Addr} {o:HO} (h:b≠a):upd H a o b=H b:=by unfold upd;rw [if_neg h]
theorem aO {H:Hp} {a b:Addr} {o:HO} (h:H a=some o) (h':H b=none):a≠b:=by
 intro e;subst e;rw [h] at h';cases h'
section
variable (P:Program) (w:World)
def cp (H:Hp) (h:Heap) (a:Addr):HO→Prop
 | .lst xs=>xs.length≤sizeLine∧∃ (its:List Value) (n:Nat),aF xs its∧h.get? a=some { cls:=.type "list",data:=.seq its.toArray n }
 | .tup xs=>xs.length≤sizeLine∧∃ its:List Value,aF xs its∧IsTup h a its.toArray
 | .dK kvs=>kvs.length≤sizeLine∧(a==sysModules)=false∧∃ vs,KV kvs vs∧h.DictOf (mixKind P w) a vs
 | .dT kvs=>kvs.length≤sizeLine∧(a==sysModules)=false∧∃ xs:List (List Key×Addr×Value),
  Paired (fun (p:List Key×V) (q:List Key×Addr×Value)=>p.1=q.1∧H q.2.1=some (.tup (p.1.map kV))∧RelV p.2 q.2.2) kvs xs∧
  ∃ o es ep,h.get? a=some o∧o.ExactDict∧o.data=.dict es ep∧es.toList=xs.map (entryOfKey (tupleKind (mixKind P w)))∧(xs.map (·.1)).Nodup
 | .set S n=>h.SetOf (intKind P w) a S n
 | .ins C dx fs=>H dx=some (.own a)∧fs.length≤1000∧dx≠a∧h.get? a=some (PySem.W.instObj C dx)∧
  ∃ mA,h.Ns1 dx mA∧(∀ f,RelO (fs.lookup f) (mA f))∧PySem.Within mA (fs.map (·.1))
 | .own _=>∃ o,h.get? a=some o
 | .xd fs=>∃ mA,h.Ns1 a mA∧∀ f,RelO (fs.lookup f) (mA f)
 | .rng lo hi=>∃ t u v,h.get? a=some { cls:=.type "range",data:=.fields #[.int lo t,.int hi u,.int 1 v] }
 | .frz o u=>h.get? a=some o∧cp H h a u
 | .tbl ps=>h.get? a=some { cls:=.none,data:=.fields ps }
 | .met f x=>h.get? a=some (PySem.W.methodObj (.ref f) (.ref x))
 | .ext φ=>φ h∧(∃ o,h.get? a=some o)∧∀ h1 h2:Heap,φ h1→(∀ o,h1.get? a=some o→h2.get? a=some o)→φ h2
def HOk (H:Hp) (h:Heap):Prop:=∀ a o,H a=some o→cp P w H h a o
end
section
variable {P:Program} {w:World} {H H':Hp} {h h':Heap} {a:Addr} {o:HO}
theorem cp.lt (x:cp P w H h a o):a<h.objs.size:=by
 cases o with
 | lst xs=>obtain ⟨_,_,_,_,e⟩:=x;exact Heap.lt_size e
 | tup xs=>obtain ⟨_,_,_,p⟩:=x;exact p.lt
 | dK kvs=>obtain ⟨_,_,_,_,o,_,_,e,_⟩:=x;exact Heap.lt_size e
 | dT kvs=>obtain ⟨_,_,_,_,o,_,_,e,_⟩:=x;exact Heap.lt_size e
 | set S n=>obtain ⟨o,_,_,_,e,_⟩:=x;exact Heap.lt_size e
 | ins C dx fs=>obtain ⟨_,_,_,e,_⟩:=x;exact Heap.lt_size e
 | own y=>obtain ⟨_,e⟩:=x;exact Heap.lt_size e
 | xd fs=>obtain ⟨_,⟨_,_,_,e,_⟩,_⟩:=x;exact Heap.lt_size e
 | rng lo hi=>obtain ⟨_,_,_,e⟩:=x;exact Heap.lt_size e
 | frz ob u=>obtain ⟨e,_⟩:=x;exact Heap.lt_size e
 | tbl ps=>exact Heap.lt_size (show h.get? a=some _ from x)
 | met f y=>exact Heap.lt_size (show h.get? a=some _ from x)
 | ext φ=>obtain ⟨_,⟨_,e⟩,_⟩:=x;exact Heap.lt_size e
theorem Paired.mapP {α β:Type} {F G:α→β→Prop}:∀ {l₁:List α} {l₂:List β},Paired F l₁ l₂→(∀ a b,F a b→G a b)→Paired G l₁ l₂
 | _,_,.nil,_=>.nil
 | _,_,.cons r t,f=>.cons (f _ _ r) (Paired.mapP t f)
theorem cp.stay (x:cp P w H h a o) (k:∀ b u,(b=a∨H b=some (.own a))→h.get? b=some u→h'.get? b=some u)
  (ho:∀ b,H b=some (.own a)→H' b=some (.own a)) (ht:∀ b xs,H b=some (.tup xs)→H' b=some (.tup xs)):cp P w H' h' a o:=by
 induction o with
 | lst xs=>obtain ⟨z,its,n,r,e⟩:=x;exact ⟨z,its,n,r,k _ _ (.inl rfl) e⟩
 | tup xs=>obtain ⟨z,its,r,ob,e,c⟩:=x;exact ⟨z,its,r,ob,k _ _ (.inl rfl) e,c⟩
 | dK kvs=>obtain ⟨z,y,vs,r,ob,es,ep,e,c⟩:=x;exact ⟨z,y,vs,r,ob,es,ep,k _ _ (.inl rfl) e,c⟩
 | dT kvs=>
  obtain ⟨z,y,xs,r,ob,es,ep,e,c⟩:=x
  exact ⟨z,y,xs,Paired.mapP r fun p q z=>⟨z.1,ht _ _ z.2.1,z.2.2⟩,ob,es,ep,k _ _ (.inl rfl) e,c⟩
 | set S n=>obtain ⟨ob,es,ep,t,e,c⟩:=x;exact ⟨ob,es,ep,t,k _ _ (.inl rfl) e,c⟩
 | ins C dx fs=>
  obtain ⟨d,z,ne,e,mA,⟨od,es,ep,e2,c⟩,r⟩:=x
  exact ⟨ho _ d,z,ne,k _ _ (.inl rfl) e,mA,⟨od,es,ep,k _ _ (.inr d) e2,c⟩,r⟩
 | own y=>obtain ⟨ob,e⟩:=x;exact ⟨ob,k _ _ (.inl rfl) e⟩
 | xd fs=>obtain ⟨mA,⟨od,es,ep,e,c⟩,r⟩:=x;exact ⟨mA,⟨od,es,ep,k _ _ (.inl rfl) e,c⟩,r⟩
 | rng lo hi=>obtain ⟨t,u,v,e⟩:=x;exact ⟨t,u,v,k _ _ (.inl rfl) e⟩
 | frz ob u ih=>obtain ⟨e,q⟩:=x;exact ⟨k _ _ (.inl rfl) e,ih q⟩
 | tbl ps=>
  have e:h.get? a=some { cls:=.none,data:=.fields ps }:=x
  show h'.get? a=some { cls:=.none,data:=.fields ps }
  exact k a _ (.inl rfl) e
 | met f y=>
  have e:h.get? a=some (PySem.W.methodObj (.ref f) (.ref y)):=x
  show h'.get? a=some (PySem.W.methodObj (.ref f) (.ref y))
  exact k a _ (.inl rfl) e
 | ext φ=>obtain ⟨p,⟨o,e⟩,st⟩:=x;exact ⟨st _ _ p fun o q=>k _ _ (.inl rfl) q,⟨o,k _ _ (.inl rfl) e⟩,st⟩
theorem HOk.lt (x:HOk P w H h) (e:H a=some o):a<h.objs.size:=(x a o e).lt
theorem HOk.fresh (x:HOk P w H h) (e:h.objs.size≤a):H a=none:=by
 cases q:H a with
 | none=>rfl
 | some u=>exact absurd (Nat.lt_of_lt_of_le (x.lt q) e) (Nat.lt_irrefl _)
theorem HOk.kept (x:HOk P w H h) (k:∀ b u,h.get? b=some u→h'.get? b=some u):HOk P w H h':=fun a o e=>
 (x a o e).stay (fun b u _ q=>k b u q) (fun _ q=>q) fun _ _ q=>q
theorem HOk.laid (x:HOk P w H h) (k:∀ b u,h.get? b=some u→h'.get? b=some u) (hp:h.objs.size≤a) (new:cp P w (upd H a o) h' a o):HOk P w (upd H a o) h':=fun b u e=>by
 have hn:=x.fresh hp
 by_cases hb:b=a
 ·
  subst hb;rw [aA] at e;cases e;exact new
 ·
  rw [aB hb] at e
  exact (x b u e).stay (fun c v _ q=>k c v q) (fun c q=>by rw [aB (aO q hn)];exact q) fun c xs q=>by rw [aB (aO q hn)];exact q
end
def Rd (H:Hp) (a:Addr) (u:HO):Prop:=H a=some u∨∃ o,H a=some (.frz o u)
theorem Rd.ok {P:Program} {w:World} {H:Hp} {h:Heap} {a:Addr} {u:HO} (r:Rd H a u) (x:HOk P w H h):cp P w H h a u:=by
 rcases r with r | ⟨o,r⟩
 ·
  exact x a u r
 ·
  obtain ⟨_,q⟩:=x a _ r
  exact q
def Mut:Option HO→Prop
 | some (.lst _)=>True
 | some (.dK _)=>True
 | some (.dT _)=>True
 | some (.set _ _)=>True
 | some (.ins _ _ _)=>True
 | some (.ext _)=>True
 | _=>False
section
variable {P:Program} {w:World} {H:Hp} {h h':Heap} {x e:Addr} {o':HO}
theorem HOk.write (ok:HOk P w H h) (mu:Mut (H x)) (he:e=x∨H e=some (.own x)) (k:∀ b u,b≠e→h.get? b=some u→h'.get? b=some u) (heo:∃ u,h'.get? e=some u)
  (new:cp P w (upd H x o') h' x o'):HOk P w (upd H x o') h':=fun b u q=>by
 have nown:∀ c y,H c=some (.own y)→c≠x:=fun c y r z=>by subst z;rw [r] at mu;exact mu
 have ntup:∀ c xs,H c=some (.tup xs)→c≠x:=fun c xs r z=>by subst z;rw [r] at mu;exact mu
 by_cases hb:b=x
 ·
  subst hb;rw [aA] at q;cases q;exact new
 ·
  rw [aB hb] at q
  by_cases hbe:b=e
  ·
   have q':H b=some (.own x):=by
    rcases he with z | z
    ·
     exact absurd (hbe.trans z) hb
    ·
     rw [hbe];exact z
   rw [q] at q';cases q'
   obtain ⟨v,hv⟩:=heo
   exact ⟨v,by rw [hbe];exact hv⟩
  ·
   refine (ok b u q).stay (fun c v hc r=>k c v ?_ r) (fun c r=>by rw [aB (nown c b r)];exact r) fun c xs r=>by rw [aB (ntup c xs r)];exact r
   rcases hc with rfl | hc
   ·
    exact hbe
   ·
    rintro rfl
    rcases he with z | z
    ·
     exact nown c b hc z
    ·
     rw [hc] at z;cases z;exact hb rfl
end
structure Un (fs ex:List Addr) (H H':Hp) (h h':Heap):Prop where
 keep:∀ b o,h.get? b=some o→H b=none→b∉fs→b∉ex→h'.get? b=some o
 slot:∀ b o,h.get? b=some o→H b=none→b∈fs→b∉ex→∃ sl,h'.get? b=some { o with slots:=sl }
 free:∀ b o,h.get? b=some o→H b=none→b∉ex→H' b=none
 there:∀ b o,h.get? b=some o→b∉ex→∃ o',h'.get? b=some o'
 tups:∀ b xs,H b=some (.tup xs)→H' b=some (.tup xs)
 frzs:∀ b o u,H b=some (.frz o u)→H' b=some (.frz o u)
 tbls:∀ b ps,H b=some (.tbl ps)→∃ more,H' b=some (.tbl (ps++more))
section
variable {fs fs' ex ex':List Addr} {H H1 H2:Hp} {h h1 h2 h':Heap} {a x e:Addr} {o:HO}
theorem Un.any (u:Un fs ex H H1 h h1) {b:Addr} {ob:Obj} (q:h.get? b=some ob) (n:H b=none) (hx:b∉ex):∃ sl,h1.get? b=some { ob with slots:=sl }:=by
 by_cases hb:b∈fs
 ·
  exact u.slot b ob q n hb hx
 ·
  exact ⟨ob.slots,u.keep b ob q n hb hx⟩
theorem Un.kept (k:∀ b u,h.get? b=some u→h'.get? b=some u):Un fs ex H H h h':=
 ⟨fun b ob q _ _ _=>k b ob q,fun b ob q _ _ _=>⟨ob.slots,k b ob q⟩,fun _ _ _ n _=>n,fun b ob q _=>⟨ob,k b ob q⟩,fun _ _ q=>q,fun _ _ _ q=>q,fun _ ps q=>⟨#[],by rw [q];simp⟩⟩
theorem Un.refl:Un fs ex H H h h:=Un.kept fun _ _ q=>q
theorem Un.laid (k:∀ b u,h.get? b=some u→h'.get? b=some u) (hp:h.objs.size≤a) (hn:H a=none):Un fs ex H (upd H a o) h h' where
 keep:=fun b u q _ _ _=>k b u q
 slot:=fun b u q _ _ _=>⟨u.slots,k b u q⟩
 free:=fun b u q n _=>by rw [aB (Nat.ne_of_lt (Nat.lt_of_lt_of_le (Heap.lt_size q) hp))];exact n
 there:=fun b u q _=>⟨u,k b u q⟩
 tups:=fun b xs q=>by rw [aB (aO q hn)];exact q
 frzs:=fun b u xs q=>by rw [aB (aO q hn)];exact q
 tbls:=fun b ps q=>⟨#[],by rw [aB (aO q hn),q];simp⟩
theorem Un.write (mu:Mut (H x)) (he:e=x∨H e=some (.own x)) (k:∀ b u,b≠e→h.get? b=some u→h'.get? b=some u) (heo:∃ u,h'.get? e=some u):Un fs ex H (upd H x o) h h':=by
 have hx:∀ b,H b=none→b≠x:=fun b n z=>by subst z;rw [n] at mu;exact mu
 have hb:∀ b,H b=none→b≠e:=fun b n z=>by
  subst z
  rcases he with r | r
  ·
   exact hx b n r
  ·
   rw [n] at r;cases r
 have hm:∀ b u,H b=some u→¬Mut (some u)→b≠x:=fun b u q nm z=>by subst z;rw [q] at mu;exact nm mu
 refine ⟨fun b u q n _ _=>k b u (hb b n) q,fun b u q n _ _=>⟨u.slots,k b u (hb b n) q⟩,fun b u q n _=>by rw [aB (hx b n)];exact n,fun b u q _=>?_,
  fun b xs q=>by rw [aB (hm b _ q fun z=>z)];exact q,fun b u xs q=>by rw [aB (hm b _ q fun z=>z)];exact q,fun b ps q=>⟨#[],by rw [aB (hm b _ q fun z=>z),q];simp⟩⟩
 by_cases hbe:b=e
 ·
  subst hbe;exact heo
 ·
  exact ⟨u,k b u hbe q⟩
end
def trk (h:Heap) (H:Hp):List Addr:=(List.range h.objs.size).filter fun a=>(H a).isSome
def hidT (h:Heap) (H:Hp):Heap:=PySem.W.hideAll h (trk h H)
theorem hidT_size (h:Heap) (H:Hp):(hidT h H).objs.size=h.objs.size:=PySem.W.hideAll_size _ _
theorem hidT_get {h:Heap} {H:Hp} {b:Addr} {o:Obj} (e:h.get? b=some o) (n:H b=none):(hidT h H).get? b=some o:=
 PySem.W.hideAll_get _ e fun hm=>by
  have q:(H b).isSome=true:=(List.mem_filter.mp hm).2
  rw [n] at q;simp at q
theorem of_hidT {h:Heap} {H:Hp} {b:Addr} {o:Obj} (e:(hidT h H).get? b=some o):h.get? b=some o∧H b=none:=by
 have e':h.get? b=some o:=PySem.W.of_hideAll (trk h H) e
 refine ⟨e',?_⟩
 cases q:H b with
 | none=>rfl
 | some x=>
  have hm:b∈trk h H:=List.mem_filter.mpr ⟨List.mem_range.mpr (Heap.lt_size e'),by simp [q]⟩
  have z:(hidT h H).get? b=none:=PySem.W.hideAll_none (trk h H) hm
  rw [z] at e;cases e
end L2
namespace L2
open PySem PySem.Spec PyProof.Rows
structure Mod (K:PySem.W.Frag) (mg:Str→Option Value) (base:Heap):Prop where
 kin:K.In base
 glob:base.Ns mainGlobals mg
 blt:∃ mb,base.Ns builtinsNs mb∧∀ x:Str,x≠"__name__"→mb x=bootBuiltins x
 nolimit:base.NoLimit
structure Cx where
 prog:Program
 w:World
 K:PySem.W.Frag
 mg:Str→Option Value
 base:Heap
 A:Around
 N:List Str
 s₀:Shared
 H₀:Hp
 env:Env
 outer:List Env
 stack:List Env
 ex:List Addr
 fn:Str→Bool
 calm:Bool
 pn:List (Addr×Obj)
 xe:Value→Shared→Prop
def frs (l:List Env):List Addr:=l.filterMap (·.frame)
abbrev Cx.fs (X:Cx):List Addr:=frs X.outer
def Vis (sc:Scope) (x:Str):Prop:=sc.names.lookup x=some .local∨sc.names.lookup x=some .cell∨sc.names.lookup x=some .free
def Loc (sc:Scope) (x:Str):Prop:=sc.names.lookup x=some .local∨sc.names.lookup x=some .cell
def Look (env:Env) (h:Heap) (m:Str→Option Value) (x:Str) (u:Value):Prop:=
 (env.kindOf x=some .local∧m x=some u)∨((env.kindOf x=some .cell∨env.kindOf x=some .free)∧∃ c,env.cells.lookup x=some c∧h.IsCell c (some u))
structure Cx.Ok (X:Cx):Prop where
 mod:Mod X.K X.mg X.base
 kind:X.env.scope.kind=.function
 glob:X.env.globals=mainGlobals
 blt:X.env.builtins=builtinsNs
 above:X.s₀.heap.objs.size≤X.env.locals
 inj:∀ x y c,X.env.cells.lookup x=some c→X.env.cells.lookup y=some c→x=y
 has:∀ x,(X.env.kindOf x=some .cell∨X.env.kindOf x=some .free)→∃ c,X.env.cells.lookup x=some c
 cab:∀ x c,X.fn x=true→X.env.cells.lookup x=some c→X.s₀.heap.objs.size≤c
 hd:X.calm=true→X.A.handled=none
 frames:X.A.frames=some X.stack
 stk:X.stack=X.outer∨(X.stack=X.env::X.outer∧X.env.frame=some X.env.locals)
 exf:∀ b∈X.ex,b≠X.env.locals∧∀ x c,X.env.cells.lookup x=some c→c≠b
 bs:∀ b o,X.base.get? b=some o→X.s₀.heap.get? b=some o∧X.H₀ b=none
 bsz:X.base.objs.size≤X.s₀.heap.objs.size
 noex:∀ b o,X.base.get? b=some o→b∉X.ex
 exfs:∀ b∈X.ex,b∉X.fs
 funs:X.s₀.heap.FunFrames X.base X.outer
 frf:∀ b∈X.fs,X.H₀ b=none
structure Inv (X:Cx) (pins:List (Addr×Obj)) (σ:List (Option V)) (H:Hp) (s:Shared):Prop where
 ok:X.Ok
 os:s.os=X.s₀.os
 bare:AllBare s.gens
 base:Un X.fs X.ex X.H₀ H X.s₀.heap s.heap
 loc:∃ m,s.heap.Ns X.env.locals m∧∀ (i:Nat) (x:Str) (v:V),X.N[i]?=some x→σ[i]?=some (some v)→Vis X.env.scope x→∃ u,RelV v u∧Look X.env s.heap m x u
 cell:∀ x c,X.env.cells.lookup x=some c→∃ v,s.heap.IsCell c v
 free:H X.env.locals=none
 freeC:∀ x c,X.env.cells.lookup x=some c→H c=none
 pin:∀ p∈X.pn++pins,s.heap.get? p.1=some p.2∧H p.1=none∧p.1≠X.env.locals∧p.1∉X.fs∧∀ v,p.2.data≠.cell v
 hok:HOk X.prog X.w H s.heap
 len:σ.length=X.N.length
section
variable {X:Cx} {pins:List (Addr×Obj)} {σ:List (Option V)} {H H':Hp} {s:Shared} {h':Heap}
theorem Cx.Ok.nofr (ok:X.Ok) {b:Addr} {o:Obj} (e:X.base.get? b=some o):b∉X.fs:=fun hb=>by
 have:=(ok.funs.mem hb).1
 rw [e] at this;cases this
theorem Inv.bs (I:Inv X pins σ H s):∀ b o,X.base.get? b=some o→s.heap.get? b=some o∧H b=none:=fun b o e=>
 ⟨I.base.keep b o (I.ok.bs b o e).1 (I.ok.bs b o e).2 (I.ok.nofr e) (I.ok.noex b o e),I.base.free b o (I.ok.bs b o e).1 (I.ok.bs b o e).2 (I.ok.noex b o e)⟩
theorem Inv.bk (I:Inv X pins σ H s):∀ b o,X.base.get? b=some o→s.heap.get? b=some o:=fun b o e=>(I.bs b o e).1
theorem Inv.mod (I:Inv X pins σ H s):Mod X.K X.mg X.base:=I.ok.mod
theorem Inv.kIn (I:Inv X pins σ H s):X.K.In s.heap:=I.ok.mod.kin.keeps I.bk
theorem Inv.lt (I:Inv X pins σ H s):X.env.locals<s.heap.objs.size:=let ⟨_,hn,_⟩:=I.loc;hn.lt
theorem Inv.sz (I:Inv X pins σ H s):X.s₀.heap.objs.size≤s.heap.objs.size:=Nat.le_trans I.ok.above (Nat.le_of_lt I.lt)
theorem Inv.nofs (I:Inv X pins σ H s) {a:Addr} (h:s.heap.objs.size≤a):a∉X.fs:=fun hb=>by
 obtain ⟨_,o,ho,_⟩:=I.ok.funs.mem hb
 exact absurd (Nat.lt_of_lt_of_le (Heap.lt_size ho) (Nat.le_trans I.sz h)) (Nat.lt_irrefl _)
theorem Inv.cne (I:Inv X pins σ H s):∀ x c,X.env.cells.lookup x=some c→c≠X.env.locals:=fun x c e z=>by
 obtain ⟨v,o,ho,hd⟩:=I.cell x c e
 obtain ⟨m,⟨o',es,ep,ho',hd',_⟩,_⟩:=I.loc
 rw [z,ho'] at ho;cases ho;rw [hd'] at hd;cases hd
theorem Inv.funs (I:Inv X pins σ H s):s.heap.FunFrames X.base X.outer:=by
 have all:∀ (l:List Env),(∀ b∈frs l,b∈X.fs)→X.s₀.heap.FunFrames X.base l→s.heap.FunFrames X.base l:=by
  intro l
  induction l with
  | nil=>intro _ _;trivial
  | cons env r ih=>
   intro hs hl
   obtain ⟨hk,⟨L,o,hf,hn,ho,hd⟩,hr⟩:=hl
   have hL:L∈X.fs:=hs L (by unfold frs;rw [List.filterMap_cons,hf];exact List.mem_cons_self)
   obtain ⟨sl,e⟩:=I.base.slot L o ho (I.ok.frf L hL) hL fun z=>I.ok.exfs L z hL
   exact ⟨hk,⟨L,_,hf,hn,e,hd⟩,ih (fun b hb=>hs b (by unfold frs;rw [List.filterMap_cons,hf];exact List.mem_cons_of_mem _ hb)) hr⟩
 exact all X.outer (fun _ hb=>hb) I.ok.funs
theorem Inv.stack (I:Inv X pins σ H s):s.heap.FunFrames X.base X.stack:=by
 rcases I.ok.stk with e | ⟨e,hf⟩
 ·
  rw [e];exact I.funs
 ·
  rw [e]
  obtain ⟨m,hn,_⟩:=I.loc
  refine .cons (by rw [I.ok.kind];decide) hf hn ?_ I.funs
  exact Heap.get?_none_of_le (Nat.le_trans I.ok.bsz I.ok.above)
theorem Inv.stkSub (I:Inv X pins σ H s):∀ b∈frs X.stack,b∈X.env.locals::X.fs:=fun b hb=>by
 rcases I.ok.stk with e | ⟨e,hf⟩
 ·
  rw [e] at hb;exact List.mem_cons_of_mem _ hb
 ·
  rw [e] at hb
  unfold frs at hb
  rw [List.filterMap_cons,hf] at hb
  exact hb
theorem Inv.stkFree (I:Inv X pins σ H s):∀ b∈frs X.stack,H b=none:=fun b hb=>by
 rcases List.mem_cons.mp (I.stkSub b hb) with e | hb
 ·
  rw [e];exact I.free
 ·
  obtain ⟨_,o,ho,_⟩:=I.ok.funs.mem hb
  exact I.base.free b o ho (I.ok.frf b hb) fun z=>I.ok.exfs b z hb
theorem Inv.step {g':Array GenState} {t':Nat} {d':Drawn} {ch:List Addr} (I:Inv X pins σ H s)
  (hch:∀ b∈ch,(b∈X.ex∨X.s₀.heap.objs.size≤b)∧b≠X.env.locals∧(∀ x c,X.env.cells.lookup x=some c→c≠b)∧∀ p∈X.pn++pins,p.1≠b)
  (keep:∀ b o,b≠X.env.locals→b∉X.fs→b∉ch→s.heap.get? b=some o→H b=none→h'.get? b=some o)
  (slot:∀ b o,b≠X.env.locals→b∈X.fs→b∉ch→s.heap.get? b=some o→H b=none→∃ sl,h'.get? b=some { o with slots:=sl }) (free:∀ b o,b∉ch→s.heap.get? b=some o→H b=none→H' b=none)
  (there:∀ b o,b∉ch→s.heap.get? b=some o→∃ o',h'.get? b=some o')
  (tups:∀ b xs,H b=some (.tup xs)→H' b=some (.tup xs)) (frzs:∀ b o u,H b=some (.frz o u)→H' b=some (.frz o u)) (tbls:∀ b ps,H b=some (.tbl ps)→∃ more,H' b=some (.tbl (ps++more)))
  (ns:∀ m,s.heap.Ns X.env.locals m→h'.Ns X.env.locals m) (hok:HOk X.prog X.w H' h') (hg:AllBare g') :
  Inv X pins σ H' { s with heap:=h',gens:=g',drawn:=d',toks:=t' }:=by
 have neL:∀ b o,X.s₀.heap.get? b=some o→b≠X.env.locals:=fun b o e=>Nat.ne_of_lt (Nat.lt_of_lt_of_le (Heap.lt_size e) I.ok.above)
 have neC:∀ b o,X.s₀.heap.get? b=some o→b∉X.ex→b∉ch:=fun b o e hx hb=>by
  rcases (hch b hb).1 with z | z
  ·
   exact hx z
  ·
   exact absurd (Nat.lt_of_lt_of_le (Heap.lt_size e) z) (Nat.lt_irrefl _)
 have cellK:∀ x c,X.env.cells.lookup x=some c→∀ v,s.heap.IsCell c v→h'.IsCell c v:=fun x c e v ⟨o,ho,hd⟩=>by
  have nch:c∉ch:=fun z=>(hch c z).2.2.1 x c e rfl
  by_cases hc:c∈X.fs
  ·
   obtain ⟨sl,q⟩:=slot c o (I.cne x c e) hc nch ho (I.freeC x c e)
   exact ⟨_,q,hd⟩
  ·
   exact ⟨o,keep c o (I.cne x c e) hc nch ho (I.freeC x c e),hd⟩
 refine ⟨I.ok,I.os,hg,⟨fun b o e n hb hx=>?_,fun b o e n hb hx=>?_,fun b o e n hx=>?_,fun b o e hx=>?_,fun b xs e=>tups b xs (I.base.tups b xs e),fun b o xs e=>frzs b o xs (I.base.frzs b o xs e),fun b ps e=>?_⟩,?_,fun x c e=>?_,?_,fun x c e=>?_,fun p hp=>?_,hok,I.len⟩
 ·
  exact keep b o (neL b o e) hb (neC b o e hx) (I.base.keep b o e n hb hx) (I.base.free b o e n hx)
 ·
  obtain ⟨sl,e1⟩:=I.base.slot b o e n hb hx
  obtain ⟨sl',e2⟩:=slot b _ (neL b o e) hb (neC b o e hx) e1 (I.base.free b o e n hx)
  exact ⟨sl',e2⟩
 ·
  obtain ⟨o',e1⟩:=I.base.there b o e hx
  exact free b o' (neC b o e hx) e1 (I.base.free b o e n hx)
 ·
  obtain ⟨o',e1⟩:=I.base.there b o e hx
  exact there b o' (neC b o e hx) e1
 ·
  obtain ⟨m1,e1⟩:=I.base.tbls b ps e
  obtain ⟨m2,e2⟩:=tbls b _ e1
  exact ⟨m1++m2,by rw [e2,Array.append_assoc]⟩
 ·
  obtain ⟨m,hn,hl⟩:=I.loc
  refine ⟨m,ns m hn,fun i x v e1 e2 e3=>?_⟩
  obtain ⟨u,r,l⟩:=hl i x v e1 e2 e3
  refine ⟨u,r,?_⟩
  rcases l with l | ⟨k,c,e,z⟩
  ·
   exact .inl l
  ·
   exact .inr ⟨k,c,e,cellK x c e _ z⟩
 ·
  obtain ⟨v,z⟩:=I.cell x c e
  exact ⟨v,cellK x c e v z⟩
 ·
  obtain ⟨m,⟨o,_,_,ho,_⟩,_⟩:=I.loc
  exact free _ o (fun z=>(hch _ z).2.1 rfl) ho I.free
 ·
  obtain ⟨v,o,ho,hd⟩:=I.cell x c e
  exact free c o (fun z=>(hch c z).2.2.1 x c e rfl) ho (I.freeC x c e)
 ·
  obtain ⟨e,n,ne,nf,d⟩:=I.pin p hp
  have nch:p.1∉ch:=fun z=>(hch p.1 z).2.2.2 p hp rfl
  exact ⟨keep p.1 p.2 ne nf nch e n,free p.1 p.2 nch e n,ne,nf,d⟩
theorem Inv.un {t':Nat} (I:Inv X pins σ H s) (u:Un X.fs [] H H' s.heap h') (hok:HOk X.prog X.w H' h'):Inv X pins σ H' { s with heap:=h',toks:=t' }:=by
 obtain ⟨m,⟨o,es,ep,ho,r⟩,_⟩:=id I.loc
 obtain ⟨sl,hL⟩:=u.any ho I.free (by simp)
 exact I.step (g':=s.gens) (d':=s.drawn) (ch:=[]) (fun _ z=>nomatch z) (fun b o _ hb _ e n=>u.keep b o e n hb (by simp)) (fun b o _ hb _ e n=>u.slot b o e n hb (by simp)) (fun b o _ e n=>u.free b o e n (by simp)) (fun b o _ e=>u.there b o e (by simp)) u.tups u.frzs u.tbls (fun m' hm=>by
  obtain ⟨o',es',ep',ho',r'⟩:=hm
  rw [ho] at ho';cases ho'
  exact ⟨_,es',ep',hL,r'⟩) hok I.bare
theorem Inv.call {g':Array GenState} {t':Nat} {d':Drawn} {ch:List Addr} (I:Inv X pins σ H s) (u:Un (frs X.stack) ch H H' s.heap h') (hok:HOk X.prog X.w H' h') (hg:AllBare g')
  (hch:∀ b∈ch,(b∈X.ex∨X.s₀.heap.objs.size≤b)∧b≠X.env.locals∧(∀ x c,X.env.cells.lookup x=some c→c≠b)∧∀ p∈X.pn++pins,p.1≠b) :
  Inv X pins σ H' { s with heap:=h',gens:=g',drawn:=d',toks:=t' }:=by
 obtain ⟨m,⟨o,es,ep,ho,r⟩,_⟩:=id I.loc
 obtain ⟨sl,hL⟩:=u.any ho I.free fun z=>(hch _ z).2.1 rfl
 exact I.step (ch:=ch) hch (fun b o hL hb hc e n=>u.keep b o e n (fun z=>(List.mem_cons.mp (I.stkSub b z)).elim hL hb) hc) (fun b o _ _ hc e n=>u.any e n hc) (fun b o hc e n=>u.free b o e n hc) (fun b o hc e=>u.there b o e hc) u.tups u.frzs u.tbls (fun m' hm=>by
  obtain ⟨o',es',ep',ho',r'⟩:=hm
  rw [ho] at ho';cases ho'
  exact ⟨_,es',ep',hL,r'⟩) hok hg
theorem Inv.turned {t':Nat} {it:Addr} (I:Inv X pins σ H s) (k:∀ b o,b≠it→s.heap.get? b=some o→h'.get? b=some o) (hn:H it=none) (hL:it≠X.env.locals)
  (h1:it∈X.ex∨X.s₀.heap.objs.size≤it) (h2:∀ x c,X.env.cells.lookup x=some c→c≠it) (h3:∀ p∈X.pn++pins,p.1≠it):Inv X pins σ H { s with heap:=h',toks:=t' }:=by
 have nit:∀ b u,H b=some u→b≠it:=fun b u e z=>by rw [z,hn] at e;cases e
 refine I.step (g':=s.gens) (d':=s.drawn) (ch:=[it]) (fun b hb=>?_) (fun b o _ _ hc e _=>k b o (fun z=>hc (by simp [z])) e) (fun b o _ _ hc e _=>⟨o.slots,k b o (fun z=>hc (by simp [z])) e⟩) (fun _ _ _ _ n=>n)
  (fun b o hc e=>⟨o,k b o (fun z=>hc (by simp [z])) e⟩) (fun _ _ e=>e) (fun _ _ _ e=>e) (fun b ps e=>⟨#[],by rw [e];simp⟩) (fun m hm=>?_) (fun b u e=>?_) I.bare
 ·
  have e:b=it:=by simpa using hb
  subst e
  exact ⟨h1,hL,h2,h3⟩
 ·
  obtain ⟨o,es,ep,ho,r⟩:=hm
  exact ⟨o,es,ep,k _ o (Ne.symm hL) ho,r⟩
 ·
  refine (I.hok b u e).stay (fun c v hc q=>k c v ?_ q) (fun _ q=>q) fun _ _ q=>q
  rcases hc with z | z
  ·
   rw [z];exact nit b u e
  ·
   exact nit c _ z
theorem Inv.tok (I:Inv X pins σ H s) (t:Nat):Inv X pins σ H { s with toks:=t }:=I.un (h':=s.heap) (t':=t) Un.refl I.hok
theorem Inv.kept {t':Nat} (I:Inv X pins σ H s) (k:∀ b u,s.heap.get? b=some u→h'.get? b=some u):Inv X pins σ H { s with heap:=h',toks:=t' }:=I.un (Un.kept k) (I.hok.kept k)
theorem Inv.laid {a:Addr} {o:HO} {t':Nat} (I:Inv X pins σ H s) (k:∀ b u,s.heap.get? b=some u→h'.get? b=some u) (hp:s.heap.objs.size≤a) (new:cp X.prog X.w (upd H a o) h' a o) :
 Inv X pins σ (upd H a o) { s with heap:=h',toks:=t' }:=I.un (Un.laid k hp (I.hok.fresh hp)) (I.hok.laid k hp new)
theorem Inv.write {x e:Addr} {o:HO} {t':Nat} (I:Inv X pins σ H s) (mu:Mut (H x)) (he:e=x∨H e=some (.own x)) (k:∀ b u,b≠e→s.heap.get? b=some u→h'.get? b=some u) (heo:∃ u,h'.get? e=some u)
 (new:cp X.prog X.w (upd H x o) h' x o):Inv X pins σ (upd H x o) { s with heap:=h',toks:=t' }:=I.un (Un.write mu he k heo) (I.hok.write mu he k heo new)
theorem Inv.pins_of {pins':List (Addr×Obj)} (I:Inv X pins σ H s) (h:∀ p∈pins',s.heap.get? p.1=some p.2∧H p.1=none∧p.1≠X.env.locals∧p.1∉X.fs∧∀ v,p.2.data≠.cell v):Inv X pins' σ H s:=
 ⟨I.ok,I.os,I.bare,I.base,I.loc,I.cell,I.free,I.freeC,fun p hp=>(List.mem_append.mp hp).elim (fun z=>I.pin p (List.mem_append_left _ z)) (h p),I.hok,I.len⟩
theorem m8 {N:List Str} (hN:N.Nodup) {i j:Nat} {x:Str} (a:N[i]?=some x) (b:N[j]?=some x):i=j:=by
 obtain ⟨h1,e1⟩:=List.getElem?_eq_some_iff.mp a
 obtain ⟨h2,e2⟩:=List.getElem?_eq_some_iff.mp b
 exact (List.getElem_inj hN).mp (e1.trans e2.symm)
theorem lp {M:Model} {A:Around} {E:Value→Shared→Prop} {i:Nat} {x:Str} {v:V} {u:Value} {Q:Unit→Shared→Prop} (I:Inv X pins σ H s) (hN:X.N.Nodup) (hi:X.N[i]?=some x) (hx:Loc X.env.scope x) (r:RelV v u)
  (h:∀ s',Inv X pins (σ.set i (some v)) H s'→(∃ a,Heap.SameBut a s.heap s'.heap∧(a=X.env.locals∨X.env.cells.lookup x=some a))→Q () s') (hf:X.fn x=true∨X.env.scope.names.lookup x=some .local:=by first | exact .inl rfl | exact .inr rfl | assumption):wpAny M A (storeName X.env x u) Q E s:=by
 obtain ⟨m,hn,hl⟩:=id I.loc
 have hcls:(X.env.scope.kind==.class||(X.env.scope.kind==.module&&X.env.locals != X.env.globals))=false:=by rw [I.ok.kind];rfl
 have hiσ:i<σ.length:=by rw [I.len];exact (List.getElem?_eq_some_iff.mp hi).1
 have cne:=I.cne
 have tracked:∀ {a:Addr} {h':Heap},(∃ o,s.heap.get? a=some o∧H a=none)→Heap.SameBut a s.heap h'→HOk X.prog X.w H h':=fun {a h'} ha hs b ob e=>by
  obtain ⟨_,_,hfree⟩:=ha
  refine (I.hok b ob e).stay (fun c w' hc q=>(hs.2 c ?_).trans q) (fun _ q=>q) fun _ _ q=>q
  rintro rfl
  rcases hc with rfl | hc
  ·
   rw [hfree] at e;cases e
  ·
   rw [hfree] at hc;cases hc
 rcases hx with hk | hk
 ·
  refine wpAny_storeName_local hk hn (fun h' hn' hs=>?_) hcls
  obtain ⟨oL,_,_,hoL,_⟩:=id hn
  refine h _ ⟨I.ok,I.os,I.bare,⟨fun b o e n hb hx=>?_,fun b o e n hb hx=>?_,I.base.free,fun b o e hx=>?_,I.base.tups,I.base.frzs,I.base.tbls⟩,⟨_,hn',fun j y v' e1 e2 e3=>?_⟩,fun y c e=>?_,I.free,I.freeC,fun p hp=>?_,tracked ⟨oL,hoL,I.free⟩ hs,by simpa using I.len⟩ ⟨_,hs,.inl rfl⟩
  ·
   exact (hs.2 b (Nat.ne_of_lt (Nat.lt_of_lt_of_le (Heap.lt_size e) I.ok.above))).trans (I.base.keep b o e n hb hx)
  ·
   obtain ⟨sl,e1⟩:=I.base.slot b o e n hb hx
   exact ⟨sl,(hs.2 b (Nat.ne_of_lt (Nat.lt_of_lt_of_le (Heap.lt_size e) I.ok.above))).trans e1⟩
  ·
   obtain ⟨o',e1⟩:=I.base.there b o e hx
   exact ⟨o',(hs.2 b (Nat.ne_of_lt (Nat.lt_of_lt_of_le (Heap.lt_size e) I.ok.above))).trans e1⟩
  ·
   by_cases hj:j=i
   ·
    subst hj
    rw [hi] at e1;cases e1
    rw [List.getElem?_set_self hiσ] at e2
    cases e2
    exact ⟨u,r,.inl ⟨hk,by simp⟩⟩
   ·
    rw [List.getElem?_set_ne (Ne.symm hj)] at e2
    obtain ⟨u',r',q⟩:=hl j y v' e1 e2 e3
    refine ⟨u',r',?_⟩
    rcases q with ⟨k,e⟩ | ⟨k,c,e,z⟩
    ·
     refine .inl ⟨k,?_⟩
     have:y≠x:=fun e=>hj (m8 hN e1 (e▸hi))
     simp [this,e]
    ·
     exact .inr ⟨k,c,e,z.sameBut hs (cne y c e)⟩
  ·
   obtain ⟨w',z⟩:=I.cell y c e
   exact ⟨w',z.sameBut hs (cne y c e)⟩
  ·
   obtain ⟨e,n,ne,nf,d⟩:=I.pin p hp
   exact ⟨(hs.2 p.1 ne).trans e,n,ne,nf,d⟩
 ·
  have hfn:X.fn x=true:=by
   rcases hf with z | z
   ·
    exact z
   ·
    rw [z] at hk;cases hk
  obtain ⟨c,hc⟩:=I.ok.has x (.inl hk)
  obtain ⟨w',z⟩:=I.cell x c hc
  refine wpAny_storeName_cell I.ok.kind hk hc z (fun h' hc' hs=>?_)
  obtain ⟨oc,hoc,hocd⟩:=id z
  refine h { s with heap:=h' } ⟨I.ok,I.os,I.bare,⟨fun b o e n hb hx=>?_,fun b o e n hb hx=>?_,I.base.free,fun b o e hx=>?_,I.base.tups,I.base.frzs,I.base.tbls⟩,⟨m,hn.sameBut hs (Ne.symm (cne x c hc)),fun j y v' e1 e2 e3=>?_⟩,fun y c' e=>?_,I.free,I.freeC,fun p hp=>?_,tracked ⟨oc,hoc,I.freeC x c hc⟩ hs,by simpa using I.len⟩ ⟨c,hs,.inr hc⟩
  ·
   exact (hs.2 b (Nat.ne_of_lt (Nat.lt_of_lt_of_le (Heap.lt_size e) (I.ok.cab x c hfn hc)))).trans (I.base.keep b o e n hb hx)
  ·
   obtain ⟨sl,e1⟩:=I.base.slot b o e n hb hx
   exact ⟨sl,(hs.2 b (Nat.ne_of_lt (Nat.lt_of_lt_of_le (Heap.lt_size e) (I.ok.cab x c hfn hc)))).trans e1⟩
  ·
   obtain ⟨o',e1⟩:=I.base.there b o e hx
   exact ⟨o',(hs.2 b (Nat.ne_of_lt (Nat.lt_of_lt_of_le (Heap.lt_size e) (I.ok.cab x c hfn hc)))).trans e1⟩
  ·
   by_cases hj:j=i
   ·
    subst hj
    rw [hi] at e1;cases e1
    rw [List.getElem?_set_self hiσ] at e2
    cases e2
    exact ⟨u,r,.inr ⟨.inl hk,c,hc,hc'⟩⟩
   ·
    rw [List.getElem?_set_ne (Ne.symm hj)] at e2
    obtain ⟨u',r',q⟩:=hl j y v' e1 e2 e3
    refine ⟨u',r',?_⟩
    rcases q with q | ⟨k,c',e,z'⟩
    ·
     exact .inl q
    ·
     refine .inr ⟨k,c',e,z'.sameBut hs ?_⟩
     rintro rfl
     exact hj (m8 hN e1 (I.ok.inj _ _ _ e hc▸hi))
  ·
   by_cases hcc:c'=c
   ·
    subst hcc;exact ⟨_,hc'⟩
   ·
    obtain ⟨w2,z2⟩:=I.cell y c' e
    exact ⟨w2,z2.sameBut hs hcc⟩
  ·
   obtain ⟨e,n,ne,nf,d⟩:=I.pin p hp
   refine ⟨(hs.2 p.1 ?_).trans e,n,ne,nf,d⟩
   intro q
   rw [q,hoc] at e
   have q':oc=p.2:=Option.some.inj e
   exact d w' (by rw [←q'];exact hocd)
theorem fR {M:Model} {A:Around} {E:Value→Shared→Prop} {i:Nat} {x:Str} {v:V} {u:Value} {Q:Unit→Shared→Prop} (I:Inv X pins σ H s) (hN:X.N.Nodup) (hi:X.N[i]?=some x) (hx:Loc X.env.scope x) (r:RelV v u)
  (h:∀ s',Inv X pins (σ.set i (some v)) H s'→Q () s') (hf:X.fn x=true∨X.env.scope.names.lookup x=some .local:=by first | exact .inl rfl | exact .inr rfl | assumption):wpAny M A (storeName X.env x u) Q E s:=
 lp I hN hi hx r (fun s' I' _=>h s' I') hf
theorem Inv.call' {s':Shared} {ch:List Addr} (I:Inv X pins σ H s) (ho:s'.os=s.os) (u:Un (frs X.stack) ch H H' s.heap s'.heap) (hok:HOk X.prog X.w H' s'.heap) (hg:AllBare s'.gens)
  (hch:∀ b∈ch,(b∈X.ex∨X.s₀.heap.objs.size≤b)∧b≠X.env.locals∧(∀ x c,X.env.cells.lookup x=some c→c≠b)∧∀ p∈X.pn++pins,p.1≠b):Inv X pins σ H' s':=by
 obtain ⟨h',g',d',t',o'⟩:=s'
 have e:o'=s.os:=ho
 subst e
 exact I.call (g':=g') (t':=t') (d':=d') u hok hg hch
end
abbrev XK:=Value→Option Addr→Hp→Prop
abbrev St:=List (Option V)
abbrev VK:=V→Hp→Prop
abbrev TE:=St→Hp→VK→Prop
abbrev TT:=St→Hp→(Bool→Hp→Prop)→Prop
abbrev TA:=St→Hp→(List V→Hp→Prop)→Prop
structure Ends where
 nx:St→Hp→Prop
 rt:VK
 bk:St→Hp→Prop:=fun _ _=>False
 ct:St→Hp→Prop:=fun _ _=>False
abbrev TS:=Ends→St→Hp→Prop
def EP (X:Cx) (pins:List (Addr×Obj)) (σ:St) (Q:VK) (u:Value) (s':Shared):Prop:=∃ v H',Inv X pins σ H' s'∧RelV v u∧Q v H'
def TP (X:Cx) (pins:List (Addr×Obj)) (σ:St) (Q:Bool→Hp→Prop) (b:Bool) (s':Shared):Prop:=∃ H',Inv X pins σ H' s'∧Q b H'
def AP (X:Cx) (pins:List (Addr×Obj)) (σ:St) (Q:List V→Hp→Prop) (us:List Value) (s':Shared):Prop:=∃ vs H',Inv X pins σ H' s'∧aF vs us∧Q vs H'
def SP (X:Cx) (pins:List (Addr×Obj)) (D:Ends) (f:Flow) (s':Shared):Prop:=
 match f with
 | .next=>∃ σ' H',Inv X pins σ' H' s'∧D.nx σ' H'
 | .brk=>∃ σ' H',Inv X pins σ' H' s'∧D.bk σ' H'
 | .cont=>∃ σ' H',Inv X pins σ' H' s'∧D.ct σ' H'
 | .ret u=>∃ v σ' H',Inv X pins σ' H' s'∧RelV v u∧D.rt v H'
def PE (X:Cx) (e:Expr) (t:TE):Prop:=
 ∀ (pins:List (Addr×Obj)) (s:Shared) (σ:St) (H:Hp) (Q:VK),Inv X pins σ H s→t σ H Q→wpAny (model X.prog X.w) X.A (eval e X.env) (EP X pins σ Q) X.xe s
def PT (X:Cx) (e:Expr) (t:TT):Prop:=
 ∀ (pins:List (Addr×Obj)) (s:Shared) (σ:St) (H:Hp) (Q:Bool→Hp→Prop),Inv X pins σ H s→t σ H Q→wpAny (model X.prog X.w) X.A (isTrue e X.env (eval e X.env)) (TP X pins σ Q) X.xe s
def PW (X:Cx) (e:Expr) (t:TT):Prop:=
 ∀ (whole:Sem Value) (pins:List (Addr×Obj)) (s:Shared) (σ:St) (H:Hp) (Q:Bool→Hp→Prop),Inv X pins σ H s→t σ H Q→wpAny (model X.prog X.w) X.A (isTrue e X.env whole) (TP X pins σ Q) X.xe s
theorem PW.pt {X:Cx} {e:Expr} {t:TT} (h:PW X e t):PT X e t:=h _
def PA (X:Cx) (es:List Expr) (t:TA):Prop:=
 ∀ (pos:Pos) (pins:List (Addr×Obj)) (s:Shared) (σ:St) (H:Hp) (Q:List V→Hp→Prop),Inv X pins σ H s→t σ H Q→wpAny (model X.prog X.w) X.A (spliced (backTo pos (starEach es X.env))) (AP X pins σ Q) X.xe s
def PS (X:Cx) (st:Stmt) (t:TS):Prop:=
 ∀ (pins:List (Addr×Obj)) (s:Shared) (σ:St) (H:Hp) (D:Ends),Inv X pins σ H s→t D σ H→wpAny (model X.prog X.w) X.A (exec st X.env) (SP X pins D) X.xe s
def PSs (X:Cx) (st:List Stmt) (t:TS):Prop:=
 ∀ (pins:List (Addr×Obj)) (s:Shared) (σ:St) (H:Hp) (D:Ends),Inv X pins σ H s→t D σ H→wpAny (model X.prog X.w) X.A (execs st X.env) (SP X pins D) X.xe s
theorem thn {α:Type} {t:Sem α} {Q Q':α→Shared→Prop} {M:Model} {A:Around} {E:Value→Shared→Prop} {s:Shared} (h:wpAny M A t Q E s) (hQ:∀ a s,Q a s→Q' a s):wpAny M A t Q' E s:=wpAny_mono h hQ fun _ _ x=>x
end L2
namespace L2
open PySem PySem.Spec PyProof.Rows
section
variable {X:Cx}
theorem bin {a b:Expr} {ta tb:TE} (ha:PE X a ta) (hb:PE X b tb) {pins:List (Addr×Obj)} {s:Shared} {σ:St} {H:Hp} {R:V→V→Hp→Prop} (I:Inv X pins σ H s) (h:ta σ H fun x H1=>tb σ H1 fun y H2=>R x y H2)
  {α:Type} {Q:α→Shared→Prop} {f:Value→Value→Sem α}
  (hf:∀ v u s2 x y H2,Inv X pins σ H2 s2→RelV x v→RelV y u→R x y H2→wpAny (model X.prog X.w) X.A (f v u) Q X.xe s2) :
  wpAny (model X.prog X.w) X.A (eval a X.env) (fun v s₁=>wpAny (model X.prog X.w) X.A (eval b X.env) (fun u s₂=>wpAny (model X.prog X.w) X.A (f v u) Q X.xe s₂) X.xe s₁) X.xe s:=by
 refine thn (ha pins s σ H _ I h) fun v s1 ⟨x,H1,I1,r1,q1⟩=>?_
 refine thn (hb pins s1 σ H1 _ I1 q1) fun u s2 ⟨y,H2,I2,r2,q2⟩=>?_
 exact hf v u s2 x y H2 I2 r1 r2 q2
def eX (i:Nat):TE:=fun σ H Q=>∃ v,σ[i]?=some (some v)∧Q v H
def tC (v:V):TE:=fun _ H Q=>Q v H
theorem pe_var {i:Nat} {x:Str} {pos:Pos} (hN:X.N[i]?=some x) (hv:Vis X.env.scope x) (hd:(x==("__debug__" : Str))=false:=by decide) (hcd:(x==("__classdict__" : Str))=false:=by decide):PE X (.Name x pos) (eX i):=by
 intro pins s σ H Q I h
 obtain ⟨v,e,h⟩:=h
 obtain ⟨m,hn,hl⟩:=I.loc
 obtain ⟨u,r,l⟩:=hl i x v hN e hv
 have fin:EP X pins σ Q u s:=⟨v,H,I,r,h⟩
 rcases l with ⟨hk,hm⟩ | ⟨hk,c,hc,hcell⟩
 ·
  exact wpAny_Name (wpAny_loadName_local I.ok.kind hk hn hm fin) hd
 ·
  rcases hk with hk | hk
  ·
   exact wpAny_Name (wpAny_loadName_cell I.ok.kind hk hc hcell fin) hd
  ·
   exact wpAny_Name (wpAny_loadName_free I.ok.kind hk hc hcell fin hcd) hd
theorem pe_int {i j pos}:PE X (.Constant (.int i) j pos) (tC (.int i)):=fun _ _ _ H _ I h=>wpAny_Constant_int ⟨.int i,H,I.tok _,⟨_,rfl⟩,h⟩
theorem pe_bl {b j pos}:PE X (.Constant (.bool b) j pos) (tC (.bl b)):=fun _ _ _ H _ I h=>Constant_bool ⟨.bl b,H,I,rfl,h⟩
theorem pe_non {j pos}:PE X (.Constant .none j pos) (tC .non):=fun _ _ _ H _ I h=>Constant_none ⟨.non,H,I,rfl,h⟩
def Gl (X:Cx) (x:Str):Prop:=X.env.kindOf x=some .globalImplicit
theorem lY {E:Value→Shared→Prop} {pins:List (Addr×Obj)} {s:Shared} {σ:St} {H:Hp} {x:Str} {u:Value} {pos:Pos} {Q:Value→Shared→Prop} (I:Inv X pins σ H s) (hg:Gl X x) (hm:X.mg x=some u) (h:Q u s)
  (hd:(x==("__debug__" : Str))=false:=by decide):wpAny (model X.prog X.w) X.A (eval (.Name x pos) X.env) Q E s:=
 Calls.Name_function_global I.ok.kind hg (Calls.loadGlobal_global (by rw [I.ok.glob];exact I.mod.glob.keeps I.bk) hm h) hd
theorem fT {E:Value→Shared→Prop} {pins:List (Addr×Obj)} {s:Shared} {σ:St} {H:Hp} {x:Str} {u:Value} {pos:Pos} {Q:Value→Shared→Prop} (I:Inv X pins σ H s) (hg:Gl X x) (hm:X.mg x=none) (hv:bootBuiltins x=some u) (h:Q u s)
  (hn:x≠"__name__":=by decide) (hd:(x==("__debug__" : Str))=false:=by decide):wpAny (model X.prog X.w) X.A (eval (.Name x pos) X.env) Q E s:=by
 obtain ⟨mb,h1,h2⟩:=I.mod.blt
 exact Calls.Name_function_global I.ok.kind hg (Calls.loadGlobal_builtin (by rw [I.ok.glob];exact I.mod.glob.keeps I.bk) hm (by rw [I.ok.blt];exact h1.keeps I.bk) ((h2 x hn).trans hv) h) hd
theorem pe_glob {x:Str} {v:V} {u:Value} {pos:Pos} (hg:Gl X x) (hm:X.mg x=some u) (r:RelV v u) (hd:(x==("__debug__" : Str))=false:=by decide):PE X (.Name x pos) (tC v):=
 fun _ _ _ H _ I h=>lY I hg hm ⟨v,H,I,r,h⟩ hd
theorem jQ {x:Str} {v:V} {u:Value} {pos:Pos} (hg:Gl X x) (hm:X.mg x=none) (hv:bootBuiltins x=some u) (r:RelV v u) (hn:x≠"__name__":=by decide) (hd:(x==("__debug__" : Str))=false:=by decide):PE X (.Name x pos) (tC v):=
 fun _ _ _ H _ I h=>fT I hg hm hv ⟨v,H,I,r,h⟩ hn hd
variable {a b:Expr} {ta tb:TE} {pos:Pos}
def PC (X:Cx) (op:CmpOp) (a b:Expr) (t:TE):Prop:=
 ∀ (pins:List (Addr×Obj)) (s:Shared) (σ:St) (H:Hp) (Q:VK),Inv X pins σ H s→t σ H Q→
  wpAny (model X.prog X.w) X.A (eval a X.env) (fun v s₁=>wpAny (model X.prog X.w) X.A (eval b X.env) (fun u s₂=>wpAny (model X.prog X.w) X.A (compareOp op v u) (EP X pins σ Q) X.xe s₂) X.xe s₁) X.xe s
def tB (t:TE):TT:=fun σ H Q=>t σ H fun x H1=>∃ c,x=.bl c∧Q c H1
theorem pt_cmp {op:CmpOp} {t:TE} (h:PC X op a b t) (h1:behindInMarks op b=false:=by first | exact nobehind _ (by decide) (by decide) | rfl):PT X (.Compare a [op] [b] pos) (tB t):=by
 intro pins s σ H Q I hw
 refine wpAny_isTrue_Compare1 (thn (h pins s σ H _ I hw) fun v s1 h1=>thn h1 fun u s2 h2=>thn h2 fun c s3 ⟨x,H1,I1,r1,q1⟩=>?_) h1
 obtain ⟨d,rfl,q⟩:=q1
 cases r1
 exact wpAny_truthy_bool ⟨H1,I1,q⟩
theorem pt_val {e:Expr} {t:TE} (h:PE X e t) (he:∀ whole,isTrue e X.env whole=(do let v ←whole;standAt e.pos;holding [v] (truthy v)):=by intro _;rfl):PT X e (tB t):=by
 intro pins s σ H Q I hw
 refine isTrue_plain (thn (h pins s σ H _ I hw) fun v s1 ⟨x,H1,I1,r1,q1⟩=>?_) (he _)
 obtain ⟨d,rfl,q⟩:=q1
 cases r1
 exact wpAny_truthy_bool ⟨H1,I1,q⟩
variable {tA tB':TT} {rest:List Expr}
def tAnd (t u:TT):TT:=fun σ H Q=>t σ H fun c H1=>if c=true then u σ H1 Q else Q false H1
def tOr (t u:TT):TT:=fun σ H Q=>t σ H fun c H1=>if c=true then Q true H1 else u σ H1 Q
def tNot (t:TT):TT:=fun σ H Q=>t σ H fun c H1=>Q (!c) H1
theorem pw_and1 (ha:PT X a tA):PW X (.BoolOp .And [a] pos) tA:=by
 intro wh pins s σ H Q I h
 refine isTrue_and (thn (ha pins s σ H Q I h) fun c s1 e=>?_)
 cases c with
 | true=>exact isTrue_and_nil e
 | false=>exact e
theorem pw_or1 (ha:PT X a tA):PW X (.BoolOp .Or [a] pos) tA:=by
 intro wh pins s σ H Q I h
 refine isTrue_or (thn (ha pins s σ H Q I h) fun c s1 e=>?_)
 cases c with
 | false=>exact isTrue_or_nil e
 | true=>exact e
theorem pw_and (ha:PT X a tA) (hb:PW X (.BoolOp .And (b::rest) pos) tB'):PW X (.BoolOp .And (a::b::rest) pos) (tAnd tA tB'):=by
 intro wh pins s σ H Q I h
 refine isTrue_and (thn (ha pins s σ H _ I h) fun c s1 ⟨H1,I1,q1⟩=>?_)
 cases c with
 | true=>exact hb wh pins s1 σ H1 Q I1 q1
 | false=>exact ⟨H1,I1,q1⟩
theorem pw_or (ha:PT X a tA) (hb:PW X (.BoolOp .Or (b::rest) pos) tB'):PW X (.BoolOp .Or (a::b::rest) pos) (tOr tA tB'):=by
 intro wh pins s σ H Q I h
 refine isTrue_or (thn (ha pins s σ H _ I h) fun c s1 ⟨H1,I1,q1⟩=>?_)
 cases c with
 | true=>exact ⟨H1,I1,q1⟩
 | false=>exact hb wh pins s1 σ H1 Q I1 q1
theorem pt_not (ha:PT X a tA):PT X (.UnaryOp .Not a pos) (tNot tA):=by
 intro pins s σ H Q I h
 exact isTrue_not (ha pins s σ H (fun c H1=>Q (!c) H1) I h)
def tAndV (ta tb:TE):TE:=fun σ H Q=>ta σ H fun x H1=>∃ c,x=.bl c∧if c=true then tb σ H1 Q else Q (.bl false) H1
def tNotV (ta:TE):TE:=fun σ H Q=>ta σ H fun x H1=>∃ c,x=.bl c∧Q (.bl (!c)) H1
theorem pe_one {op} {t:TE} (h:PE X a t):PE X (.BoolOp op [a] pos) t:=fun pins s σ H Q I hw=>BoolOp_one (h pins s σ H Q I hw)
theorem pe_and (ha:PE X a ta) (hb:PE X (.BoolOp .And (b::rest) pos) tb):PE X (.BoolOp .And (a::b::rest) pos) (tAndV ta tb):=by
 intro pins s σ H Q I h
 refine BoolOp_and (thn (ha pins s σ H _ I h) fun v s1 ⟨x,H1,I1,r1,q1⟩=>?_)
 obtain ⟨c,rfl,q1⟩:=q1
 cases r1
 refine wpAny_truthy_bool ?_
 cases c with
 | true=>exact hb pins s1 σ H1 Q I1 q1
 | false=>exact ⟨.bl false,H1,I1,rfl,q1⟩
theorem pe_not (ha:PE X a ta):PE X (.UnaryOp .Not a pos) (tNotV ta):=by
 intro pins s σ H Q I h
 refine UnaryOp_ (thn (ha pins s σ H _ I h) fun v s1 ⟨x,H1,I1,r1,q1⟩=>?_)
 obtain ⟨c,rfl,q1⟩:=q1
 cases r1
 exact not_of (wpAny_truthy_bool ⟨.bl (!c),H1,I1,rfl,q1⟩)
def tIf (t:TT) (ta tb:TE):TE:=fun σ H Q=>t σ H fun c H1=>if c=true then ta σ H1 Q else tb σ H1 Q
theorem gZ {c:Expr} (hc:PT X c tA) (ha:PE X a ta) (hb:PE X b tb):PE X (.IfExp c a b pos) (tIf tA ta tb):=by
 intro pins s σ H Q I h
 refine wpAny_IfExp (thn (hc pins s σ H _ I h) fun d s1 ⟨H1,I1,q1⟩=>?_)
 cases d with
 | true=>exact ha pins s1 σ H1 Q I1 q1
 | false=>exact hb pins s1 σ H1 Q I1 q1
end
end L2
namespace L2
open PySem PySem.Spec PyProof.Rows
def SqL (K:PySem.W.Frag) (H:Hp) (a:Addr) (xs:List V):Prop:=
 Rd H a (.lst xs)∨
  ∃ (o:Obj) (its:Array Value) (n:Nat),K.lookup a=some o∧o.cls=.type "list"∧o.dict=none∧o.data=.seq its n∧its.size≤sizeLine∧aF xs its.toList
def SqT (K:PySem.W.Frag) (H:Hp) (a:Addr) (xs:List V):Prop:=
 Rd H a (.tup xs)∨
  ∃ (o:Obj) (its:Array Value) (n:Nat),K.lookup a=some o∧o.cls=.type "tuple"∧o.data=.seq its n∧its.size≤sizeLine∧aF xs its.toList
def absV:Value→Option V
 | .none=>some .non
 | .bool b=>some (.bl b)
 | .int i _=>some (.int i)
 | .str x _=>some (.str x)
 | .bytes b _=>some (.byt b)
 | .float b _=>some (.flt b)
 | .ref a=>some (.ref a)
 | .type n=>some (.ty n)
 | _=>none
theorem RelV.abs {x:V} {u:Value} (r:RelV x u):absV u=some x:=by
 cases x with
 | non=>cases r;rfl
 | bl _=>cases r;rfl
 | int _=>obtain ⟨t,rfl⟩:=r;rfl
 | str _=>obtain ⟨t,rfl⟩:=r;rfl
 | byt _=>obtain ⟨t,rfl⟩:=r;rfl
 | flt _=>obtain ⟨t,rfl⟩:=r;rfl
 | ref _=>cases r;rfl
 | ty _=>cases r;rfl
theorem RelV.inj {x y:V} {u:Value} (r:RelV x u) (q:RelV y u):x=y:=Option.some.inj (r.abs.symm.trans q.abs)
theorem aF.inj:∀ {xs ys:List V} {us:List Value},aF xs us→aF ys us→xs=ys
 | _,_,_,.nil,.nil=>rfl
 | _,_,_,.cons r t,.cons r' t'=>by rw [r.inj r',aF.inj t t']
section
variable {X:Cx} {pins:List (Addr×Obj)} {σ:St} {H:Hp} {s:Shared} {a:Addr} {xs ys:List V}
theorem SqL.of {K:PySem.W.Frag} (h:H a=some (.lst xs)):SqL K H a xs:=.inl (.inl h)
theorem SqT.of {K:PySem.W.Frag} (h:H a=some (.tup xs)):SqT K H a xs:=.inl (.inl h)
theorem Inv.list (I:Inv X pins σ H s) (h:SqL X.K H a xs):∃ its:List Value,aF xs its∧PlainL s.heap a its.toArray∧xs.length≤sizeLine:=by
 rcases h with h | ⟨o,its,n,hk,hc,hd,hs,hz,r⟩
 ·
  obtain ⟨z,its,n,r,e⟩:=h.ok I.hok
  exact ⟨its,r,⟨_,n,e,rfl,rfl,rfl⟩,z⟩
 ·
  refine ⟨its.toList,r,⟨o,n,I.kIn a o hk,hc,hd,by simpa using hs⟩,?_⟩
  have e:=r.length
  simp only [Array.length_toList] at e
  omega
theorem Inv.tuple (I:Inv X pins σ H s) (h:SqT X.K H a xs):∃ its:List Value,aF xs its∧IsTup s.heap a its.toArray∧xs.length≤sizeLine:=by
 rcases h with h | ⟨o,its,n,hk,hc,hs,hz,r⟩
 ·
  obtain ⟨z,its,r,p⟩:=h.ok I.hok
  exact ⟨its,r,p,z⟩
 ·
  refine ⟨its.toList,r,⟨o,I.kIn a o hk,hc,n,by simpa using hs⟩,?_⟩
  have e:=r.length
  simp only [Array.length_toList] at e
  omega
theorem Inv.list_inj (I:Inv X pins σ H s) (h:SqL X.K H a xs) (h':SqL X.K H a ys):xs=ys:=by
 obtain ⟨its,r,⟨o,n,e,_,_,d⟩,_⟩:=I.list h
 obtain ⟨its',r',⟨o',n',e',_,_,d'⟩,_⟩:=I.list h'
 rw [e] at e';cases e'
 rw [d] at d'
 injection d' with d1 _
 have:its=its':=by simpa using congrArg Array.toList d1
 subst this
 exact r.inj r'
end
abbrev Cx.wish (X:Cx) (E:Value→Shared→Prop):Cx:={ X with xe:=E }
abbrev Cx.nox (X:Cx):Cx:=X.wish fun _ _=>False
theorem Cx.Ok.wish {X:Cx} (ok:X.Ok) (E:Value→Shared→Prop):(X.wish E).Ok:=
 ⟨ok.mod,ok.kind,ok.glob,ok.blt,ok.above,ok.inj,ok.has,ok.cab,ok.hd,ok.frames,ok.stk,ok.exf,ok.bs,ok.bsz,ok.noex,ok.exfs,ok.funs,ok.frf⟩
theorem Cx.Ok.unwish {X:Cx} {E:Value→Shared→Prop} (ok:(X.wish E).Ok):X.Ok:=
 ⟨ok.mod,ok.kind,ok.glob,ok.blt,ok.above,ok.inj,ok.has,ok.cab,ok.hd,ok.frames,ok.stk,ok.exf,ok.bs,ok.bsz,ok.noex,ok.exfs,ok.funs,ok.frf⟩
section
variable {X:Cx} {pins:List (Addr×Obj)} {σ:St} {H:Hp} {s:Shared} {E:Value→Shared→Prop}
theorem Inv.wish (I:Inv X pins σ H s) (E:Value→Shared→Prop):Inv (X.wish E) pins σ H s:=⟨I.ok.wish E,I.os,I.bare,I.base,I.loc,I.cell,I.free,I.freeC,I.pin,I.hok,I.len⟩
theorem Inv.unwish (I:Inv (X.wish E) pins σ H s):Inv X pins σ H s:=⟨I.ok.unwish,I.os,I.bare,I.base,I.loc,I.cell,I.free,I.freeC,I.pin,I.hok,I.len⟩
theorem SP.unwish {D:Ends} {f:Flow} {s':Shared} (h:SP (X.wish E) pins D f s'):SP X pins D f s':=by
 cases f with
 | next=>obtain ⟨σ',H',I,q⟩:=h;exact ⟨σ',H',I.unwish,q⟩
 | brk=>obtain ⟨σ',H',I,q⟩:=h;exact ⟨σ',H',I.unwish,q⟩
 | cont=>obtain ⟨σ',H',I,q⟩:=h;exact ⟨σ',H',I.unwish,q⟩
 | ret u=>obtain ⟨v,σ',H',I,r,q⟩:=h;exact ⟨v,σ',H',I.unwish,r,q⟩
theorem PSs.nox {st:List Stmt} {t:TS} (h:PSs X.nox st t):PSs X st t:=fun pins s σ H D I hw=>
 wpAny_mono (h pins s σ H D (I.wish _) hw) (fun _ _ q=>q.unwish) fun _ _ z=>False.elim z
end
section
variable {X:Cx} {st:Stmt} {rest:List Stmt} {t u:TS} {e:Expr} {te:TE} {pos:Pos}
def tNext:TS:=fun D σ H=>D.nx σ H
def tSeq (t u:TS):TS:=fun D σ H=>t { D with nx:=u D } σ H
theorem pss_nil:PSs X [] tNext:=fun _ _ σ H _ I h=>wpAny_execs_nil ⟨σ,H,I,h⟩
theorem pss_cons (h1:PS X st t) (h2:PSs X rest u):PSs X (st::rest) (tSeq t u):=by
 intro pins s σ H D I h
 refine wpAny_execs_cons (thn (h1 pins s σ H { D with nx:=u D } I h) fun f s1 q=>?_)
 cases f with
 | next=>
  obtain ⟨σ',H',I',q⟩:=q
  exact h2 pins s1 σ' H' D I' q
 | ret v=>exact q
 | brk=>exact q
 | cont=>exact q
theorem pss_one (h1:PS X st t):PSs X [st] t:=by
 intro pins s σ H D I h
 refine wpAny_execs_cons (thn (h1 pins s σ H D I h) fun f s1 q=>?_)
 cases f with
 | next=>exact wpAny_execs_nil q
 | ret v=>exact q
 | brk=>exact q
 | cont=>exact q
theorem Inv.quiet {pins:List (Addr×Obj)} {σ:St} {H:Hp} {s:Shared} (I:Inv X pins σ H s):interactive X.env=false:=by simp [interactive,I.ok.kind]
def tDrop (te:TE):TS:=fun D σ H=>te σ H fun _ H1=>D.nx σ H1
theorem g9 (he:PE X e te) (hs:swapsWith e none pos.line X.env=pure false:=by rfl):PS X (.Expr e pos) (tDrop te):=by
 intro pins s σ H D I h
 exact wpAny_Expr_any (thn (he pins s σ H _ I h) fun v s1 ⟨x,H1,I1,r1,q1⟩=>⟨σ,H1,I1,q1⟩) I.quiet hs
def tRet (te:TE):TS:=fun D σ H=>te σ H D.rt
theorem j9 (he:PE X e te):PS X (.Return (some e) pos) (tRet te):=by
 intro pins s σ H D I h
 exact wpAny_Return_some (thn (he pins s σ H _ I h) fun v s1 ⟨x,H1,I1,r1,q1⟩=>⟨x,σ,H1,I1,r1,q1⟩)
def tIfS (c:TT) (t u:TS):TS:=fun D σ H=>c σ H fun b H1=>if b=true then t D σ H1 else u D σ H1
theorem ps_if {c:Expr} {a b:List Stmt} {tc:TT} (hc:PT X c tc) (ha:PSs X a t) (hb:PSs X b u):PS X (.If c a b pos) (tIfS tc t u):=by
 intro pins s σ H D I h
 refine wpAny_If (thn (hc pins s σ H _ I h) fun d s1 ⟨H1,I1,q1⟩=>?_)
 cases d with
 | true=>exact ha pins s1 σ H1 D I1 q1
 | false=>exact hb pins s1 σ H1 D I1 q1
end
abbrev TG:=V→St→Hp→(St→Hp→Prop)→Prop
abbrev TGs:=List V→St→Hp→(St→Hp→Prop)→Prop
def PG (X:Cx) (target:Expr) (t:TG):Prop:=
 ∀ (pins:List (Addr×Obj)) (s:Shared) (σ:St) (H:Hp) (v:V) (u:Value) (Q:St→Hp→Prop),Inv X pins σ H s→RelV v u→t v σ H Q→
  wpAny (model X.prog X.w) X.A (assign target X.env u) (fun _ s'=>∃ σ' H',Inv X pins σ' H' s'∧Q σ' H') X.xe s
def PGs (X:Cx) (ts:List Expr) (t:TGs):Prop:=
 ∀ (pins:List (Addr×Obj)) (s:Shared) (σ:St) (H:Hp) (vs:List V) (us:List Value) (Q:St→Hp→Prop),Inv X pins σ H s→aF vs us→t vs σ H Q→
  wpAny (model X.prog X.w) X.A (assignInOrder ((assignEach ts X.env).map (·.2)) us) (fun _ s'=>∃ σ' H',Inv X pins σ' H' s'∧Q σ' H') X.xe s
abbrev TSet:=V→V→V→Hp→(Hp→Prop)→Prop
def PSet (X:Cx) (t:TSet):Prop:=
 ∀ (pins:List (Addr×Obj)) (s:Shared) (σ:St) (H:Hp) (o i v:V) (ov iv u:Value) (Q:Hp→Prop),Inv X pins σ H s→RelV o ov→RelV i iv→RelV v u→t o i v H Q→
  wpAny (model X.prog X.w) X.A (setItem ov iv u) (fun _ s'=>∃ H',Inv X pins σ H' s'∧Q H') X.xe s
abbrev TIp:=V→V→Hp→VK→Prop
def PIp (X:Cx) (op:Operator) (t:TIp):Prop:=
 ∀ (pins:List (Addr×Obj)) (s:Shared) (σ:St) (H:Hp) (x y:V) (v u:Value) (Q:VK),Inv X pins σ H s→RelV x v→RelV y u→t x y H Q→
  wpAny (model X.prog X.w) X.A (inplaceOp op v u) (EP X pins σ Q) X.xe s
section
variable {X:Cx} {pos:Pos}
def lq (i:Nat):TG:=fun v σ H Q=>Q (σ.set i (some v)) H
theorem pg_name {i:Nat} {x:Str} (hN:X.N.Nodup) (hi:X.N[i]?=some x) (hx:Loc X.env.scope x) (hf:X.fn x=true∨X.env.scope.names.lookup x=some .local:=by first | exact .inl rfl | exact .inr rfl | assumption):PG X (.Name x pos) (lq i):=by
 intro pins s σ H v u Q I r h
 exact wpAny_assign_Name (fR I hN hi hx r (fun s' I'=>⟨_,H,I',h⟩) hf)
def gNil:TGs:=fun vs σ H Q=>vs=[]∧Q σ H
def gCons (t:TG) (u:TGs):TGs:=fun vs σ H Q=>∃ v r,vs=v::r∧t v σ H fun σ' H'=>u r σ' H' Q
theorem pgs_nil:PGs X [] gNil:=by
 intro pins s σ H vs us Q I r h
 obtain ⟨e,h⟩:=h
 subst e
 cases r
 exact assignInOrder_nil ⟨σ,H,I,h⟩
theorem pgs_cons {e:Expr} {es:List Expr} {t:TG} {u:TGs} (h1:PG X e t) (h2:PGs X es u)
  (hs:(assignEach (e::es) X.env).map (·.2)=assign e X.env::(assignEach es X.env).map (·.2):=by rfl):PGs X (e::es) (gCons t u):=by
 intro pins s σ H vs us Q I r h
 obtain ⟨v,vr,e1,h⟩:=h
 subst e1
 cases r with
 | cons r rr=>
  rw [hs]
  refine assignInOrder_cons (thn (h1 pins s σ H _ _ _ I r h) fun _ s1 ⟨σ1,H1,I1,q1⟩=>?_)
  exact h2 pins s1 σ1 H1 _ _ Q I1 rr q1
def gTup (K:PySem.W.Frag) (n:Nat) (t:TGs):TG:=fun v σ H Q=>∃ a xs,v=.ref a∧SqT K H a xs∧xs.length=n∧t xs σ H Q
theorem pg_tup {es:List Expr} {k:Nat} {t:TGs} {n:Nat} (hc:X.calm=true) (h:PGs X es t)
  (hn:(assignEach es X.env).length=n:=by rfl) (hst:(assignEach es X.env).findIdx? (·.1)=none:=by rfl):PG X (.Tuple es k pos) (gTup X.K n t):=by
 intro pins s σ H v u Q I r hw
 obtain ⟨a,xs,e1,hq,hl,hw⟩:=hw
 subst e1
 cases r
 obtain ⟨its,rv,ht,hz⟩:=I.tuple hq
 refine assign_Tuple_tuple (I.ok.hd hc) ht (by simp [hn,←hl,rv.length]) hst fun h' hx=>?_
 have I1:Inv X pins σ H { s with heap:=h' }:=I.kept (t':=s.toks) fun b o e=>hx b o (Nat.ne_of_lt (Heap.lt_size e)) e
 exact h pins _ σ H xs _ Q I1 (by simpa using rv) hw
def gSub (to ti:TE) (t:TSet):TG:=fun v σ H Q=>to σ H fun o H1=>ti σ H1 fun i H2=>t o i v H2 fun H3=>Q σ H3
theorem pg_sub {o i:Expr} {to ti:TE} {t:TSet} (ho:PE X o to) (hi:PE X i ti) (hs:PSet X t)
  (ha:∀ v,assign (.Subscript o i pos) X.env v=(do
   let ov ←holding [v] (eval o X.env)
   let iv ←holding [v,ov] (eval i X.env)
   standAt pos
   holding [v,ov,iv] (setItem ov iv v)
   release [v,ov,iv] []):=by intro _;rfl):PG X (.Subscript o i pos) (gSub to ti t):=by
 intro pins s σ H v u Q I r h
 rw [ha]
 refine wpAny_bind (wpAny_holding (thn (ho pins s σ H _ I h) fun ov s1 ⟨x,H1,I1,r1,q1⟩=>?_))
 refine wpAny_bind (wpAny_holding (thn (hi pins s1 σ H1 _ I1 q1) fun iv s2 ⟨y,H2,I2,r2,q2⟩=>?_))
 refine wpAny_bind (wpAny_standAt (wpAny_bind (wpAny_holding (thn (hs pins s2 σ H2 x y v ov iv u _ I2 r1 r2 r q2) fun _ s3 ⟨H3,I3,q3⟩=>?_))))
 exact wpAny_release ⟨σ,H3,I3,q3⟩
def tAsg (te:TE) (g:TG):TS:=fun D σ H=>te σ H fun x H1=>g x σ H1 D.nx
theorem ps_asg {tg e:Expr} {te:TE} {g:TG} (he:PE X e te) (hg:PG X tg g) (hs:swapsWithSole [tg] e pos.line X.env=pure false:=by rfl) (hw:swappedStores [tg] e X.env=pure none:=by rfl)
  (h1:(assignEach [tg] X.env).map (·.2)=[assign tg X.env]:=by rfl):PS X (.Assign [tg] e pos) (tAsg te g):=by
 intro pins s σ H D I h
 refine wpAny_Assign_stores (thn (he pins s σ H _ I h) fun v s1 ⟨x,H1,I1,r1,q1⟩=>?_) hs hw
 rw [h1]
 exact thn (hg pins s1 σ H1 x v _ I1 r1 q1) fun _ s2 q=>q
theorem ps_set {i:Nat} {x:Str} {e:Expr} {te:TE} {pos':Pos} (hN:X.N.Nodup) (hi:X.N[i]?=some x) (hx:Loc X.env.scope x) (he:PE X e te) (hs:swapsWith e (some (.Name x pos')) pos.line X.env=pure false:=by rfl) (hf:X.fn x=true∨X.env.scope.names.lookup x=some .local:=by first | exact .inl rfl | exact .inr rfl | assumption) :
  PS X (.Assign [.Name x pos'] e pos) (tAsg te (lq i)):=by
 intro pins s σ H D I h
 refine wpAny_Assign_Name (thn (he pins s σ H _ I h) fun v s1 ⟨y,H1,I1,r1,q1⟩=>?_) hs
 exact fR I1 hN hi hx r1 (fun s2 I2=>⟨_,H1,I2,q1⟩) hf
def tPar (i j:Nat) (ta:TA):TS:=fun D σ H=>ta σ H fun vs H1=>∃ v w,vs=[v,w]∧D.nx ((σ.set i (some v)).set j (some w)) H1
theorem ps_par {i j:Nat} {x y:Str} {a b:Expr} {ta:TA} {px py pt:Pos} {kt k2 pt2} (hc:X.calm=true) (hN:X.N.Nodup) (hi:X.N[i]?=some x) (hj:X.N[j]?=some y) (hij:i≠j)
  (hx:X.env.scope.names.lookup x=some .local) (hy:X.env.scope.names.lookup y=some .local) (ha:PA X [a,b] ta)
  (hw:swappedStores [.Tuple [.Name x px,.Name y py] kt pt] (.Tuple [a,b] k2 pt2) X.env=pure (some [x,y]))
  (hs:swapsWithSole [.Tuple [.Name x px,.Name y py] kt pt] (.Tuple [a,b] k2 pt2) pos.line X.env=pure false:=by rfl) :
  PS X (.Assign [.Tuple [.Name x px,.Name y py] kt pt] (.Tuple [a,b] k2 pt2) pos) (tPar i j ta):=by
 intro pins s σ H D I h
 rw [exec_Assign_arm]
 refine wpAny_bind (wpAny_standAt ?_)
 rw [hs]
 refine wpAny_bind (wpAny_pure ?_)
 rw [if_neg (by decide)]
 refine wpAny_bind (Tuple_ (thn (ha _ pins s σ H _ I h) fun us s1 ⟨vs,H1,I1,r1,q1⟩=>?_))
 obtain ⟨v,w,e1,q1⟩:=q1
 subst e1
 obtain ⟨u1,u2,rfl,rv,rw'⟩ : ∃ u1 u2,us=[u1,u2]∧RelV v u1∧RelV w u2:=by
  cases r1 with
  | cons p q=>
   cases q with
   | cons p' q'=>
    cases q'
    exact ⟨_,_,rfl,p,p'⟩
 refine wpAny_newObj_type ?_ (by show 2≤sizeLine;decide)
 have I2:Inv X pins σ H1 { s1 with heap:=s1.heap.push { cls:=.type "tuple",data:=.seq [u1,u2].toArray } }:=I1.kept (t':=s1.toks) fun b o e=>Heap.get?_push_of_some _ e
 rw [hw]
 refine wpAny_bind (wpAny_pure ?_)
 show wpAny (model X.prog X.w) X.A (do rule "assign.swapped-stores";let items ←unpackItems (.ref s1.heap.objs.size) 2 none;assignInOrder [fun v=>bindName X.env y v,fun v=>bindName X.env x v] items.reverse;pure Flow.next) _ _ _
 refine wpAny_bind (wpAny_rule (wpAny_bind (unpackItems_tuple (items:=#[u1,u2]) (I.ok.hd hc) (IsTup.new s1.heap _) fun h' hx'=>?_)))
 have I3:=I2.kept (h':=h') (t':=s1.toks) fun b o e=>hx' b o (Nat.ne_of_lt (Heap.lt_size e)) e
 show wpAny _ _ (assignInOrder [fun v=>bindName X.env y v,fun v=>bindName X.env x v] [u2,u1] >>= fun _=>pure Flow.next) _ _ _
 refine wpAny_bind (assignInOrder_cons (wpAny_bindName (fR I3 hN hj (.inl hy) rw' (fun s2 I4=>?_) (.inr hy))))
 refine assignInOrder_cons (wpAny_bindName (fR I4 hN hi (.inl hx) rv (fun s3 I5=>assignInOrder_nil (wpAny_pure ?_)) (.inr hx)))
 rw [List.set_comm _ _ (Ne.symm hij)] at I5
 exact ⟨_,H1,I5,q1⟩
def tAug (i:Nat) (te:TE) (ti:TIp):TS:=fun D σ H=>∃ x,σ[i]?=some (some x)∧te σ H fun y H1=>ti x y H1 fun z H2=>D.nx (σ.set i (some z)) H2
theorem ps_aug {i:Nat} {x:Str} {e:Expr} {te:TE} {op:Operator} {ti:TIp} {pos':Pos} (hN:X.N.Nodup) (hi:X.N[i]?=some x) (hx:Loc X.env.scope x) (he:PE X e te) (ho:PIp X op ti) (hf:X.fn x=true∨X.env.scope.names.lookup x=some .local:=by first | exact .inl rfl | exact .inr rfl | assumption) :
  PS X (.AugAssign (.Name x pos') op e pos) (tAug i te ti):=by
 intro pins s σ H D I h
 obtain ⟨v,e1,h⟩:=h
 obtain ⟨m,hn,hl⟩:=I.loc
 have vis:Vis X.env.scope x:=by rcases hx with k | k;exact .inl k;exact .inr (.inl k)
 obtain ⟨u,r,l⟩:=hl i x v hi e1 vis
 refine wpAny_AugAssign_Name ?_
 have go:wpAny (model X.prog X.w) X.A (eval e X.env) (fun w s₂=>wpAny (model X.prog X.w) X.A (inplaceOp op u w) (fun r s₃=>wpAny (model X.prog X.w) X.A (storeName X.env x r) (fun _=>SP X pins D .next) X.xe s₃) X.xe s₂) X.xe s:=by
  refine thn (he pins s σ H _ I h) fun w s1 ⟨y,H1,I1,r1,q1⟩=>?_
  refine thn (ho pins s1 σ H1 v y u w _ I1 r r1 q1) fun z s2 ⟨zv,H2,I2,r2,q2⟩=>?_
  exact fR I2 hN hi hx r2 (fun s3 I3=>⟨_,H2,I3,q2⟩) hf
 rcases l with ⟨hk,hm⟩ | ⟨hk,c,hc,hcell⟩
 ·
  exact wpAny_loadName_local I.ok.kind hk hn hm go
 ·
  rcases hk with hk | hk
  ·
   exact wpAny_loadName_cell I.ok.kind hk hc hcell go
  ·
   rcases hx with k | k
   ·
    have:X.env.scope.names.lookup x=some .free:=hk
    rw [k] at this;cases this
   ·
    have:X.env.scope.names.lookup x=some .free:=hk
    rw [k] at this;cases this
def ipI (f:Int→Int→Int):TIp:=fun x y H Q=>∃ i j,x=.int i∧y=.int j∧Q (.int (f i j)) H
theorem ip_add:PIp X .Add (ipI fun i j=>i+j):=by
 intro pins s σ H x y v u Q I r1 r2 h
 obtain ⟨i,j,e1,e2,q⟩:=h
 subst e1;subst e2
 obtain ⟨t,rfl⟩:=r1
 obtain ⟨t',rfl⟩:=r2
 exact iadd_int ⟨.int _,H,I.tok _,⟨_,rfl⟩,q⟩
end
section
variable {X:Cx} {pos:Pos}
def tWhile (c:TT) (tb:TS):TS:=fun D σ H=>∃ W:Nat→St→Hp→Prop,(∃ m,W m σ H)∧∀ m σ H,W m σ H→
 c σ H fun b H1=>if b=true then ∃ N:St→Hp→Prop,(∀ σ' H',N σ' H'→∃ m',m'<m∧W m' σ' H')∧tb { D with nx:=N,ct:=N,bk:=D.nx } σ H1 else D.nx σ H1
theorem ps_while {c:Expr} {body:List Stmt} {tc:TT} {tb:TS} (hp:PassesOwn (model X.prog X.w) X.A X.env X.xe) (hc:PT X c tc) (hb:PSs X body tb):PS X (.While c body [] pos) (tWhile tc tb):=by
 intro pins s σ H D I h
 obtain ⟨W,⟨m0,w0⟩,turn⟩:=h
 refine wpAny_While (codeAny_whileLoop (fun n s'=>∃ σ' H',Inv X pins σ' H' s'∧W n σ' H') ?_ m0 ⟨σ,H,I,w0⟩)
 rintro n s1 ⟨σ1,H1,I1,w1⟩
 refine wpAny_passesOwn hp (thn (hc pins s1 σ1 H1 _ I1 (turn n σ1 H1 w1)) fun b s2 ⟨H2,I2,q2⟩=>?_)
 cases b with
 | true=>
  obtain ⟨N,hN,q2⟩:=q2
  rw [if_pos rfl]
  refine wpAny_passesOwn hp (thn (hb pins s2 σ1 H2 _ I2 q2) fun f s3 q3=>?_)
  cases f with
  | next=>
   obtain ⟨σ3,H3,I3,n3⟩:=q3
   obtain ⟨m',hm,w3⟩:=hN σ3 H3 n3
   exact ⟨m',hm,σ3,H3,I3,w3⟩
  | cont=>
   obtain ⟨σ3,H3,I3,n3⟩:=q3
   obtain ⟨m',hm,w3⟩:=hN σ3 H3 n3
   exact ⟨m',hm,σ3,H3,I3,w3⟩
  | brk=>exact q3
  | ret v=>exact q3
 | false=>
  rw [if_neg Bool.false_ne_true]
  exact wpAny_execs_nil ⟨σ1,H2,I2,q2⟩
end
structure It where
 go:Nat→Hp→Prop
 yld:Nat→Hp→V→Hp→Prop
 stop:Nat→Hp→Prop
def FpOk (X:Cx) (pins:List (Addr×Obj)) (H:Hp) (b:Addr):Prop:=
 H b=none∧b≠X.env.locals∧b∉X.fs∧(b∈X.ex∨X.s₀.heap.objs.size≤b)∧(∀ x c,X.env.cells.lookup x=some c→c≠b)∧∀ p∈X.pn++pins,p.1≠b
theorem Inv.fpOk {X:Cx} {pins:List (Addr×Obj)} {σ:St} {H H':Hp} {s:Shared} {b:Addr} (I:Inv X pins σ H s) (hb:s.heap.objs.size≤b) (hn:H' b=none):FpOk X pins H' b:=by
 refine ⟨hn,Nat.ne_of_gt (Nat.lt_of_lt_of_le I.lt hb),I.nofs hb,.inr (Nat.le_trans I.sz hb),fun x c e z=>?_,fun p hp z=>?_⟩
 ·
  obtain ⟨v,q⟩:=I.cell x c e
  exact absurd (Nat.lt_of_lt_of_le q.lt (by rw [z];exact hb)) (Nat.lt_irrefl _)
 ·
  exact absurd (Nat.lt_of_lt_of_le (Heap.lt_size (I.pin p hp).1) (by rw [z];exact hb)) (Nat.lt_irrefl _)
structure Turn (P:Program) (w:World) (K:PySem.W.Frag) (tg:Expr) (J:It) (fp:List Addr) (it:Addr) (tn:Nat→Heap→Prop):Prop where
 mem:it∈fp
 obj:∀ i h,tn i h→∀ b∈fp,∃ o,h.get? b=some o∧∀ v,o.data≠.cell v
 keep:∀ i h h',tn i h→(∀ b∈fp,∀ o,h.get? b=some o→h'.get? b=some o)→tn i h'
 item:∀ (X:Cx),X.prog=P→X.w=w→X.K=K→X.calm=true→∀ (i:Nat) (pins:List (Addr×Obj)) (s:Shared) (σ:St) (H:Hp) (E:Value→Shared→Prop),Inv X pins σ H s→(∀ b∈fp,FpOk X pins H b)→tn i s.heap→J.go i H→
  wpAny (model P w) X.A (pyNext (.ref it)) (fun r s1=>∃ u,r=some u∧
   wpAny (model P w) X.A (letOwnedTupleGo tg (.ref it) u) (fun _ s2=>∃ x H',Inv X pins σ H' s2∧RelV x u∧J.yld i H x H'∧tn (i+1) s2.heap∧∀ b∈fp,H' b=none) E s1) E s
 done:∀ (X:Cx),X.prog=P→X.w=w→X.K=K→X.calm=true→∀ (i:Nat) (pins:List (Addr×Obj)) (s:Shared) (σ:St) (H:Hp) (E:Value→Shared→Prop),Inv X pins σ H s→(∀ b∈fp,FpOk X pins H b)→tn i s.heap→J.stop i H→
  wpAny (model P w) X.A (pyNext (.ref it)) (fun r s1=>r=none∧Inv X pins σ H s1) E s
 self:∀ (A:Around) (i:Nat) (s:Shared) (Q:Value→Shared→Prop) (E:Value→Shared→Prop),tn i s.heap→Q (.ref it) s→wpAny (model P w) A (pyIter (.ref it)) Q E s
abbrev TI:=St→Hp→(It→Hp→Prop)→Prop
def PIE (X:Cx) (pins:List (Addr×Obj)) (σ:St) (tg:Expr) (R:It→Hp→Prop) (itv:Value) (s2:Shared):Prop:=
 ∃ (it:Addr) (fp:List Addr) (tn:Nat→Heap→Prop) (J:It) (H':Hp),itv=.ref it∧Inv X pins σ H' s2∧Turn X.prog X.w X.K tg J fp it tn∧tn 0 s2.heap∧(∀ b∈fp,FpOk X pins H' b)∧R J H'
def PI (X:Cx) (tg iter:Expr) (wi:TI):Prop:=
 ∀ (pins:List (Addr×Obj)) (s:Shared) (σ:St) (H:Hp) (R:It→Hp→Prop),Inv X pins σ H s→wi σ H R→
  wpAny (model X.prog X.w) X.A (eval iter X.env) (fun v s1=>wpAny (model X.prog X.w) X.A (pyIter v) (PIE X pins σ tg R) X.xe s1) X.xe s
theorem go_of {M:Model} {A:Around} {E:Value→Shared→Prop} {s:Shared} {tg:Expr} {it:Addr} {u:Value} {o:Obj} {n:String} {vs:Array Value} {Q:Unit→Shared→Prop} (ho:s.heap.get? it=some o) (hc:o.cls=.type n) (hd:o.data=.fields vs)
    (hn:["enumerate", "zip", "dict_itemiterator", "dict_reverseitemiterator", "odict_iterator", "itertools.zip_longest", "itertools.pairwise"].contains n=false) (hQ:Q () s):wpAny M A (letOwnedTupleGo tg (.ref it) u) Q E s:=by
  unfold letOwnedTupleGo
  cases tg <;> first
    | exact wpAny_pure hQ
    | (cases u <;> first
        | exact wpAny_pure hQ
        | (refine wpAny_bind (wpAny_load ho ?_)
           rw [hc,hd]
           show wpAny M A (if (["enumerate", "zip", "dict_itemiterator", "dict_reverseitemiterator", "odict_iterator", "itertools.zip_longest", "itertools.pairwise"].contains n&&vs[0]?==some (rawInt _))=true then _ else _) Q E s
           rw [if_neg (by intro h;rw [hn,Bool.false_and] at h;cases h)]
           exact wpAny_pure hQ))
def Itl (K:PySem.W.Frag) (a:Addr):It:=
 ⟨fun i H=>∃ xs x,SqL K H a xs∧xs[i]?=some x,fun i H x H'=>H'=H∧∀ xs,SqL K H a xs→xs[i]?=some x,fun i H=>∃ xs,SqL K H a xs∧xs.length≤i⟩
def Itr (lo:Int) (n:Nat):It:=⟨fun i _=>i<n,fun i H x H'=>H'=H∧x=.int (lo+i),fun i _=>n≤i⟩
theorem turn_list {P:Program} {w:World} {K:PySem.W.Frag} {tg:Expr} (a it:Addr):Turn P w K tg (Itl K a) [it] it (fun i h=>h.IsListIter it a i) where
 mem:=by simp
 obj:=fun i h st b hb=>by
  have e:b=it:=by simpa using hb
  subst e
  obtain ⟨o,e,c,d⟩:=st
  exact ⟨o,e,fun v z=>by rw [d] at z;cases z⟩
 keep:=fun i h h' st k=>st.at fun o e=>k it (by simp) o e
 item:=by
  intro X hP hw hK hc i pins s σ H E I hf st hg
  subst hP hw hK
  obtain ⟨xs,x,hq,hx⟩:=hg
  obtain ⟨its,rv,p,hz⟩:=I.list hq
  obtain ⟨u,hu,ru⟩:=rv.get hx
  obtain ⟨f0,f1,f2,f3,f4,f5⟩:=hf it (by simp)
  refine wpAny_pyNext_list_item st p.isList (x:=u) (by simpa using hu) fun h' st' sb=>?_
  have I1:Inv X pins σ H { s with heap:=h' }:=I.turned (t':=s.toks) (fun b o hb e=>(sb.2 b hb).trans e) f0 f1 f3 f4 f5
  obtain ⟨o,e,c,d⟩:=id st'
  exact ⟨u,rfl,go_of (s:={ s with heap:=h' }) e c d (by decide) ⟨x,H,I1,ru,⟨rfl,fun ys hy=>by rw [I.list_inj hy hq];exact hx⟩,st',fun b hb=>(hf b hb).1⟩⟩
 done:=by
  intro X hP hw hK hc i pins s σ H E I hf st hg
  subst hP hw hK
  obtain ⟨xs,hq,hx⟩:=hg
  obtain ⟨its,rv,p,hz⟩:=I.list hq
  obtain ⟨f0,f1,f2,f3,f4,f5⟩:=hf it (by simp)
  have hl:=rv.length
  exact wpAny_pyNext_list_end (I.ok.hd hc) st p.isList (by simp;omega) fun h' eb=>⟨rfl,I.turned (t':=s.toks) (fun b o hb e=>eb b o hb e) f0 f1 f3 f4 f5⟩
 self:=fun _ _ _ _ _ st h=>wpAny_pyIter_listiter st h
theorem oQ {P:Program} {w:World} {K:PySem.W.Frag} {tg:Expr} (it:Addr) (lo:Int) (n:Nat):Turn P w K tg (Itr lo n) [it] it (fun i h=>IsRangeIter h it (lo+(i:Nat)*1) ((n:Int)-(i:Nat)) 1) where
 mem:=by simp
 obj:=fun i h st b hb=>by
  have e:b=it:=by simpa using hb
  subst e
  exact ⟨_,st,fun v z=>by
   have z':Data.fields _=Data.cell v:=z
   cases z'⟩
 keep:=fun i h h' st k=>k it (by simp) _ st
 item:=by
  intro X hP hw hK hc i pins s σ H E I hf st hg
  subst hP hw hK
  obtain ⟨f0,f1,f2,f3,f4,f5⟩:=hf it (by simp)
  have W:=Walks.range (prog:=X.prog) (w:=X.w) (I.ok.hd hc) it lo 1 n
  refine W.item i s _ _ hg st fun v h' tk hv st' kk=>?_
  obtain ⟨t,rfl⟩:=hv
  have I1:Inv X pins σ H { s with heap:=h',toks:=tk }:=I.turned (fun b o hb e=>kk b o (by simpa using hb) e) f0 f1 f3 f4 f5
  refine ⟨_,rfl,go_of (s:={ s with heap:=h',toks:=tk }) (n:="range_iterator") st' rfl rfl (by decide) ⟨.int (lo+i),H,I1,⟨t,?_⟩,⟨rfl,rfl⟩,st',fun b hb=>(hf b hb).1⟩⟩
  rw [Int.mul_one]
 done:=by
  intro X hP hw hK hc i pins s σ H E I hf st hg
  subst hP hw hK
  obtain ⟨f0,f1,f2,f3,f4,f5⟩:=hf it (by simp)
  exact wpAny_pyNext_range_end (I.ok.hd hc) st (by have:n≤i:=hg;omega) fun h' eb=>⟨rfl,I.turned (t':=s.toks) (fun b o hb e=>eb b o hb e) f0 f1 f3 f4 f5⟩
 self:=fun _ _ _ _ _ st h=>wpAny_pyIter_rangeiter st h
end L2
namespace L2
open PySem PySem.Spec PyProof.Rows
section
variable {X:Cx} {tg:Expr}
def iList (K:PySem.W.Frag) (tl:TE):TI:=fun σ H R=>tl σ H fun x H1=>∃ a,x=.ref a∧(∃ xs,SqL K H1 a xs)∧R (Itl K a) H1
theorem pi_list {l:Expr} {tl:TE} (hl:PE X l tl):PI X tg l (iList X.K tl):=by
 intro pins s σ H R I h
 refine thn (hl pins s σ H _ I h) fun v s1 ⟨x,H1,I1,r1,q1⟩=>?_
 obtain ⟨a,e,⟨xs,hq⟩,q⟩:=q1
 subst e
 cases r1
 obtain ⟨its,rv,p,hz⟩:=I1.list hq
 refine wpAny_pyIter_list p.isList ?_
 refine ⟨s1.heap.objs.size,[s1.heap.objs.size],_,_,H1,rfl,I1.kept (t':=s1.toks) fun b o e=>Heap.get?_push_of_some _ e,turn_list a _,⟨_,Heap.get?_push_size _ rfl,rfl,rfl⟩,fun b hb=>?_,q⟩
 have e:b=s1.heap.objs.size:=by simpa using hb
 subst e
 exact I1.fpOk (Nat.le_refl _) (I1.hok.fresh (Nat.le_refl _))
theorem range_it {pins:List (Addr×Obj)} {σ:St} {H:Hp} {s:Shared} {R:It→Hp→Prop} {E:Value→Shared→Prop} {lo hi:Int} {t u v:Tok} {tk:Nat} (I:Inv X pins σ H s) (h1:-(2 ^ 62)≤lo) (h2:lo<2 ^ 62) (h3:-(2 ^ 62)≤hi) (h4:hi<2 ^ 62)
  (q:R (Itr lo (hi-lo).toNat) H):wpAny (model X.prog X.w) X.A (pyIter (.ref s.heap.objs.size)) (PIE X pins σ tg R) E { s with heap:=s.heap.push { cls:=.type "range",data:=.fields #[.int lo t,.int hi u,.int 1 v] },toks:=tk }:=by
 refine wpAny_pyIter_range (IsRange.new ..) (small_one h1 h2 h3 h4) ?_
 have I1:Inv X pins σ H { s with heap:=s.heap.push { cls:=.type "range",data:=.fields #[.int lo t,.int hi u,.int 1 v] },toks:=tk }:=I.kept fun b o e=>Heap.get?_push_of_some _ e
 refine ⟨(s.heap.push { cls:=.type "range",data:=.fields #[.int lo t,.int hi u,.int 1 v] }).objs.size,[(s.heap.push { cls:=.type "range",data:=.fields #[.int lo t,.int hi u,.int 1 v] }).objs.size],_,_,H,rfl,
  I1.kept (t':=tk) fun b o e=>Heap.get?_push_of_some _ e,oQ _ lo (hi-lo).toNat,?_,fun b hb=>?_,q⟩
 ·
  have e1:lo+((0:Nat):Int)*1=lo:=by simp
  have e2:(((hi-lo).toNat:Nat):Int)-((0:Nat):Int)=Builtin.Range.rangeSize lo hi 1:=by rw [rangeSize_one];split <;> omega
  show IsRangeIter _ _ (lo+((0:Nat):Int)*1) ((((hi-lo).toNat:Nat):Int)-((0:Nat):Int)) 1
  rw [e1,e2]
  exact Heap.get?_push_size _ rfl
 ·
  have e:b=(s.heap.push { cls:=.type "range",data:=.fields #[.int lo t,.int hi u,.int 1 v] }).objs.size:=by simpa using hb
  subst e
  exact I1.fpOk (Nat.le_refl _) (I1.hok.fresh (Nat.le_refl _))
def iRng1 (ta:TA):TI:=fun σ H R=>ta σ H fun vs H1=>∃ j:Int,vs=[.int j]∧-(2 ^ 62)≤j∧j<2 ^ 62∧R (Itr 0 j.toNat) H1
theorem pi_range1 {a:Expr} {ta:TA} {p pos:Pos} (hg:Gl X "range") (hm:X.mg "range" = none) (ha:PA X [a] ta) (hs:starEach [a] X.env=[(false,eval a X.env)]:=by rfl):PI X tg (.Call (.Name "range" p) [a] [] pos) (iRng1 ta):=by
 intro pins s σ H R I h
 refine Call_ (fT I hg hm boot_range (PyProof.Rows.callWith_type1 (thn (ha pos pins s σ H _ I h) fun us s1 ⟨vs,H1,I1,r1,q1⟩=>?_) hs rfl))
 obtain ⟨j,e,q1,q2,q⟩:=q1
 subst e
 cases r1 with
 | cons r rr=>
  cases rr
  obtain ⟨t,rfl⟩:=r
  exact call_range_1 (range_it I1 (by omega) (by omega) q1 q2 (by simpa using q))
def tFor (wi:TI) (g:TG) (tb:TS):TS:=fun D σ H=>wi σ H fun J H1=>∃ W:Nat→Nat→St→Hp→Prop,(∃ m,W 0 m σ H1)∧∀ i m σ H,W i m σ H→
 (J.stop i H∧D.nx σ H)∨(J.go i H∧∃ N:St→Hp→Prop,(∀ σ' H',N σ' H'→∃ m',m'<m∧W (i+1) m' σ' H')∧∀ x H',J.yld i H x H'→g x σ H' fun σ2 H2=>tb { D with nx:=N,ct:=N,bk:=D.nx } σ2 H2)
def kc (fp:List Addr) (h:Heap):List (Addr×Obj):=fp.filterMap fun b=>(h.get? b).map fun o=>(b,o)
theorem eY {fp:List Addr} {h:Heap} {b:Addr} {o:Obj} (hb:b∈fp) (e:h.get? b=some o):(b,o)∈kc fp h:=List.mem_filterMap.mpr ⟨b,hb,by rw [e];rfl⟩
theorem of_pinsAt {fp:List Addr} {h:Heap} {p:Addr×Obj} (hp:p∈kc fp h):p.1∈fp∧h.get? p.1=some p.2:=by
 obtain ⟨b,hb,e⟩:=List.mem_filterMap.mp hp
 cases q:h.get? b with
 | none=>rw [q] at e;cases e
 | some o=>
  rw [q] at e
  have e':(b,o)=p:=Option.some.inj e
  subst e'
  exact ⟨hb,q⟩
theorem Inv.pinned {pins:List (Addr×Obj)} {σ:St} {H:Hp} {s:Shared} {fp:List Addr} (I:Inv X pins σ H s) (hf:∀ b∈fp,FpOk X pins H b) (ho:∀ b∈fp,∃ o,s.heap.get? b=some o∧∀ v,o.data≠.cell v):Inv X (pins++kc fp s.heap) σ H s:=
 I.pins_of fun p hp=>(List.mem_append.mp hp).elim (fun z=>I.pin p (List.mem_append_right _ z)) fun z=>by
  obtain ⟨hb,e⟩:=of_pinsAt z
  obtain ⟨f0,f1,f2,_⟩:=hf p.1 hb
  obtain ⟨o,e',d⟩:=ho p.1 hb
  rw [e] at e';cases e'
  exact ⟨e,f0,f1,f2,d⟩
theorem Inv.unpinned {pins pl:List (Addr×Obj)} {σ:St} {H:Hp} {s:Shared} (I:Inv X (pins++pl) σ H s):Inv X pins σ H s:=I.pins_of fun p hp=>I.pin p (List.mem_append_right _ (List.mem_append_left _ hp))
theorem ps_for {iter:Expr} {body:List Stmt} {wi:TI} {g:TG} {tb:TS} {pos:Pos} (hp:PassesOwn (model X.prog X.w) X.A X.env X.xe) (hc:X.calm=true) (hi:PI X tg iter wi) (hg:PG X tg g) (hb:PSs X body tb)
  (hs:∀ x,foldedSetIterable iter X.env x=pure x:=by intro _;rfl):PS X (.For tg iter body [] pos) (tFor wi g tb):=by
 intro pins s σ H D I h
 refine wpAny_For (thn (hi pins s σ H _ I h) fun v s1 h1=>thn h1 fun itv s2 h2=>?_) hs
 obtain ⟨it,fp,tn,J,H2,e,I2,T,st2,f2,W,⟨m0,w0⟩,turn⟩:=h2
 subst e
 have stat:∀ {H':Hp},(∀ b∈fp,H' b=none)→∀ b∈fp,FpOk X pins H' b:=fun hn b hb=>⟨hn b hb,(f2 b hb).2⟩
 refine codeAny_forLoop_any (fun n s'=>∃ i σ' H',Inv X pins σ' H' s'∧tn i s'.heap∧(∀ b∈fp,H' b=none)∧W i n σ' H') ?_ m0 ⟨0,σ,H2,I2,st2,fun b hb=>(f2 b hb).1,w0⟩
 rintro n s3 ⟨i,σ3,H3,I3,st3,fr3,w3⟩
 rcases turn i n σ3 H3 w3 with ⟨stop,qn⟩ | ⟨go,N,hN,step⟩
 ·
  refine wpAny_passesOwn hp (thn (T.done X rfl rfl rfl hc i pins s3 σ3 H3 X.xe I3 (stat fr3) st3 stop) fun r s4 ⟨hr,I4⟩=>?_)
  subst hr
  exact wpAny_execs_nil ⟨σ3,H3,I4,qn⟩
 ·
  refine wpAny_passesOwn hp (thn (T.item X rfl rfl rfl hc i pins s3 σ3 H3 X.xe I3 (stat fr3) st3 go) fun r s4 ⟨u,hr,h4⟩=>?_)
  subst hr
  refine wpAny_passesOwn hp (thn h4 fun _ s5 ⟨x,H5,I5,r5,y5,st5,fr5⟩=>?_)
  have I5':=I5.pinned (stat fr5) (T.obj _ _ st5)
  refine wpAny_passesOwn hp (thn (hg _ s5 σ3 H5 x u _ I5' r5 (step x H5 y5)) fun _ s6 ⟨σ6,H6,I6,q6⟩=>?_)
  refine wpAny_passesOwn hp (thn (hb _ s6 σ6 H6 _ I6 q6) fun f s7 q7=>?_)
  have again:∀ {σ7:St} {H7:Hp},Inv X (pins++kc fp s5.heap) σ7 H7 s7→N σ7 H7→∃ m,m<n∧∃ i σ' H',Inv X pins σ' H' s7∧tn i s7.heap∧(∀ b∈fp,H' b=none)∧W i m σ' H':=fun {σ7 H7} I7 n7=>by
   obtain ⟨m',hm,w7⟩:=hN σ7 H7 n7
   refine ⟨m',hm,i+1,σ7,H7,I7.unpinned,T.keep _ _ _ st5 fun b hb o e=>(I7.pin (b,o) (List.mem_append_right _ (List.mem_append_right _ (eY hb e)))).1,fun b hb=>?_,w7⟩
   obtain ⟨o,e,d⟩:=T.obj _ _ st5 b hb
   exact (I7.pin (b,o) (List.mem_append_right _ (List.mem_append_right _ (eY hb e)))).2.1
  cases f with
  | next=>obtain ⟨σ7,H7,I7,n7⟩:=q7;exact again I7 n7
  | cont=>obtain ⟨σ7,H7,I7,n7⟩:=q7;exact again I7 n7
  | brk=>obtain ⟨σ7,H7,I7,q7⟩:=q7;exact ⟨σ7,H7,I7.unpinned,q7⟩
  | ret v=>obtain ⟨x7,σ7,H7,I7,r7,q7⟩:=q7;exact ⟨x7,σ7,H7,I7.unpinned,r7,q7⟩
end
end L2
namespace L2
open PySem PySem.Spec PyProof.Rows
abbrev R2:=V→V→Hp→VK→Prop
def OpR (X:Cx) (f:Value→Value→Sem Value) (r:R2):Prop:=
 ∀ (pins:List (Addr×Obj)) (s:Shared) (σ:St) (H:Hp) (x y:V) (v u:Value) (Q:VK),Inv X pins σ H s→RelV x v→RelV y u→r x y H Q→
  wpAny (model X.prog X.w) X.A (f v u) (EP X pins σ Q) X.xe s
def UnR (X:Cx) (f:Value→Sem Value) (r:V→Hp→VK→Prop):Prop:=
 ∀ (pins:List (Addr×Obj)) (s:Shared) (σ:St) (H:Hp) (x:V) (v:Value) (Q:VK),Inv X pins σ H s→RelV x v→r x H Q→
  wpAny (model X.prog X.w) X.A (f v) (EP X pins σ Q) X.xe s
def cN (X:Cx) (f:Value) (r:List V→Hp→VK→Prop):Prop:=
 ∀ (pins:List (Addr×Obj)) (s:Shared) (σ:St) (H:Hp) (xs:List V) (us:List Value) (Q:VK),Inv X pins σ H s→aF xs us→r xs H Q→
  wpAny (model X.prog X.w) X.A (call f us) (EP X pins σ Q) X.xe s
def tOp (r:R2) (ta tb:TE):TE:=fun σ H Q=>ta σ H fun x H1=>tb σ H1 fun y H2=>r x y H2 Q
def tUn (r:V→Hp→VK→Prop) (ta:TE):TE:=fun σ H Q=>ta σ H fun x H1=>r x H1 Q
def rI (C:Int→Int→Prop) (g:Int→Int→V):R2:=fun x y H Q=>∃ i j,x=.int i∧y=.int j∧C i j∧Q (g i j) H
def rI0 (g:Int→Int→V):R2:=fun x y H Q=>∃ i j,x=.int i∧y=.int j∧Q (g i j) H
def rU (g:Int→V):V→Hp→VK→Prop:=fun x H Q=>∃ i,x=.int i∧Q (g i) H
section
variable {X:Cx} {a b c:Expr} {ta tb tc:TE} {pos:Pos}
theorem binT (ha:PE X a ta) (hb:PE X b tb) {pins:List (Addr×Obj)} {s:Shared} {σ:St} {H:Hp} {R:V→V→Hp→Prop} (I:Inv X pins σ H s)
  (h:ta σ H fun x H1=>tb σ H1 fun y H2=>R x y H2) {Q:Value→Shared→Prop} {f:Value→Value→Sem Value}
  (hf:∀ v u s2 x y H2,Inv X pins σ H2 s2→RelV x v→RelV y u→R x y H2→wpAny (model X.prog X.w) X.A (f v u) Q X.xe s2) :
  wpAny (model X.prog X.w) X.A (eval a X.env) (fun v s₁=>wpAny (model X.prog X.w) X.A (eval b X.env) (fun u s₂=>wpAny (model X.prog X.w) X.A (f v u) Q X.xe s₂) X.xe s₁) X.xe s:=by
 refine thn (ha pins s σ H _ I h) fun v s1 ⟨x,H1,I1,r1,q1⟩=>?_
 refine thn (hb pins s1 σ H1 _ I1 q1) fun u s2 ⟨y,H2,I2,r2,q2⟩=>?_
 exact hf v u s2 x y H2 I2 r1 r2 q2
theorem pe_op {op:Operator} {r:R2} (ho:OpR X (binaryOp op) r) (ha:PE X a ta) (hb:PE X b tb):PE X (.BinOp a op b pos) (tOp r ta tb):=by
 intro pins s σ H Q I h
 exact wpAny_BinOp (binT ha hb I h fun v u s2 x y H2 I2 rx ry q=>ho pins s2 σ H2 x y v u Q I2 rx ry q)
theorem pe_un {op:UnaryOp} {r:V→Hp→VK→Prop} (ho:UnR X (unaryOp op) r) (ha:PE X a ta):PE X (.UnaryOp op a pos) (tUn r ta):=by
 intro pins s σ H Q I h
 exact UnaryOp_ (thn (ha pins s σ H _ I h) fun v s1 ⟨x,H1,I1,r1,q1⟩=>ho pins s1 σ H1 x v Q I1 r1 q1)
theorem opI {f:Value→Value→Sem Value} {C:Int→Int→Prop} {g:Int→Int→Int}
  (rule:∀ (i j:Int) (t u:Tok) (s:Shared) (Q:Value→Shared→Prop) (E:Value→Shared→Prop),C i j→Q (.int (g i j) s.toks) { s with toks:=s.toks+1 }→wpAny (model X.prog X.w) X.A (f (.int i t) (.int j u)) Q E s) :
  OpR X f (rI C fun i j=>.int (g i j)):=by
 intro pins s σ H x y v u Q I rx ry h
 obtain ⟨i,j,rfl,rfl,hc,q⟩:=h
 obtain ⟨t,rfl⟩:=rx
 obtain ⟨t',rfl⟩:=ry
 exact rule i j t t' s _ _ hc ⟨.int (g i j),H,I.tok _,⟨_,rfl⟩,q⟩
theorem opI0 {f:Value→Value→Sem Value} {g:Int→Int→Int}
  (rule:∀ (i j:Int) (t u:Tok) (s:Shared) (Q:Value→Shared→Prop) (E:Value→Shared→Prop),Q (.int (g i j) s.toks) { s with toks:=s.toks+1 }→wpAny (model X.prog X.w) X.A (f (.int i t) (.int j u)) Q E s) :
  OpR X f (rI0 fun i j=>.int (g i j)):=by
 intro pins s σ H x y v u Q I rx ry h
 obtain ⟨i,j,rfl,rfl,q⟩:=h
 obtain ⟨t,rfl⟩:=rx
 obtain ⟨t',rfl⟩:=ry
 exact rule i j t t' s _ _ ⟨.int (g i j),H,I.tok _,⟨_,rfl⟩,q⟩
theorem opB0 {f:Value→Value→Sem Value} {g:Int→Int→Bool}
  (rule:∀ (i j:Int) (t u:Tok) (s:Shared) (Q:Value→Shared→Prop) (E:Value→Shared→Prop),Q (.bool (g i j)) s→wpAny (model X.prog X.w) X.A (f (.int i t) (.int j u)) Q E s) :
  OpR X f (rI0 fun i j=>.bl (g i j)):=by
 intro pins s σ H x y v u Q I rx ry h
 obtain ⟨i,j,rfl,rfl,q⟩:=h
 obtain ⟨t,rfl⟩:=rx
 obtain ⟨t',rfl⟩:=ry
 exact rule i j t t' s _ _ ⟨.bl (g i j),H,I,rfl,q⟩
def CMul (i j:Int):Prop:=(-(2 ^ 64)<i∧i<2 ^ 64)∨(-(2 ^ 64)<j∧j<2 ^ 64)
theorem CMul.ok {i j:Int} (h:CMul i j):IntMulOk i j:=by
 rcases h with ⟨h1,h2⟩ | ⟨h1,h2⟩
 ·
  exact .of_left (intBits_le_64 h1 h2)
 ·
  exact .of_right (intBits_le_64 h1 h2)
theorem op_add:OpR X (binaryOp .Add) (rI0 fun i j=>.int (i+j)):=opI0 fun _ _ _ _ _ _ _ q=>add_int q
theorem op_sub:OpR X (binaryOp .Sub) (rI0 fun i j=>.int (i-j)):=opI0 fun _ _ _ _ _ _ _ q=>sub_int q
theorem op_mul:OpR X (binaryOp .Mult) (rI CMul fun i j=>.int (i*j)):=opI fun _ _ _ _ _ _ _ hc q=>mul_int q hc.ok
theorem op_mod:OpR X (binaryOp .Mod) (rI (fun _ j=>0<j) fun i j=>.int (i % j)):=opI fun i j _ _ _ _ _ hc q=>by
 have h1:(0:Int)<j:=hc
 exact mod_int' (by omega) (by rw [Int.fmod_eq_emod_of_nonneg i (by omega)];exact q)
theorem unI {f:Value→Sem Value} {g:Int→Int}
  (rule:∀ (i:Int) (t:Tok) (s:Shared) (Q:Value→Shared→Prop) (E:Value→Shared→Prop),Q (.int (g i) s.toks) { s with toks:=s.toks+1 }→wpAny (model X.prog X.w) X.A (f (.int i t)) Q E s) :
  UnR X f (rU fun i=>.int (g i)):=by
 intro pins s σ H x v Q I rx h
 obtain ⟨i,rfl,q⟩:=h
 obtain ⟨t,rfl⟩:=rx
 exact rule i t s _ _ ⟨.int (g i),H,I.tok _,⟨_,rfl⟩,q⟩
theorem un_neg:UnR X (unaryOp .USub) (rU fun i=>.int (-i)):=unI fun _ _ _ _ _ q=>neg_int q
end
section
variable {X:Cx} {a b c:Expr} {ta tb tc:TE} {pos:Pos}
theorem fin_bl {pins:List (Addr×Obj)} {σ:St} {H:Hp} {s:Shared} {Q:VK} {k k':Bool} (I:Inv X pins σ H s) (q:Q (.bl k) H) (e:k=k'):EP X pins σ Q (.bool k') s:=by
 subst e
 exact ⟨.bl k,H,I,rfl,q⟩
theorem op_lt:OpR X (compareOp .Lt) (rI0 fun i j=>.bl (decide (i<j))):=opB0 fun _ _ _ _ _ _ _ q=>lt_int q
theorem op_le:OpR X (compareOp .LtE) (rI0 fun i j=>.bl (decide (i≤j))):=opB0 fun _ _ _ _ _ _ _ q=>le_int q
theorem op_gt:OpR X (compareOp .Gt) (rI0 fun i j=>.bl (decide (j<i))):=opB0 fun _ _ _ _ _ _ _ q=>gt_int q
theorem ke (b:Expr) {op:CmpOp} (h:op≠.In:=by decide) (h2:op≠.NotIn:=by decide):behindInMarks op b=false:=by
 have e1:(op==CmpOp.In)=false:=by cases op <;> first | rfl | exact absurd rfl h
 have e2:(op==CmpOp.NotIn)=false:=by cases op <;> first | rfl | exact absurd rfl h2
 cases b <;> simp [behindInMarks,e1,e2]
theorem pe_cmpR {op:CmpOp} {r:R2} (ho:OpR X (compareOp op) r) (ha:PE X a ta) (hb:PE X b tb) (hm:behindInMarks op b=false):PE X (.Compare a [op] [b] pos) (tOp r ta tb):=by
 intro pins s σ H Q I h
 exact wpAny_Compare1 (binT ha hb I h fun v u s2 x y H2 I2 rx ry q=>ho pins s2 σ H2 x y v u Q I2 rx ry q) hm
def tTest (t:TE):TT:=fun σ H Q=>t σ H fun x H'=>∃ k,x=.bl k∧Q k H'
theorem pt_cmpR {op:CmpOp} {r:R2} (ho:OpR X (compareOp op) r) (ha:PE X a ta) (hb:PE X b tb) (hm:behindInMarks op b=false):PT X (.Compare a [op] [b] pos) (tTest (tOp r ta tb)):=by
 intro pins s σ H Q I h
 refine wpAny_isTrue_Compare1 (thn (ha pins s σ H _ I h) fun v s1 ⟨x,H1,I1,r1,q1⟩=>thn (hb pins s1 σ H1 _ I1 q1) fun u s2 ⟨y,H2,I2,r2,q2⟩=>
  thn (ho pins s2 σ H2 x y v u _ I2 r1 r2 q2) fun c s3 ⟨z,H3,I3,r3,k,e,q3⟩=>?_) hm
 subst e
 cases r3
 exact wpAny_truthy_bool ⟨H3,I3,q3⟩
def tChain (r r':R2) (ta tb tc:TE):TE:=fun σ H Q=>ta σ H fun x H1=>tb σ H1 fun y H2=>r x y H2 fun z H3=>∃ k,z=.bl k∧
 (if k=true then tc σ H3 fun w' H4=>r' y w' H4 Q else Q (.bl false) H3)
theorem pt_chain {op op':CmpOp} {r r':R2} (ho:OpR X (compareOp op) r) (ho':OpR X (compareOp op') r') (ha:PE X a ta) (hb:PE X b tb) (hc:PE X c tc)
  (hm:lastMarks [op,op'] [b,c]=false:=by with_unfolding_all rfl):PT X (.Compare a [op,op'] [b,c] pos) (tTest (tChain r r' ta tb tc)):=by
 intro pins s σ H Q I h
 refine isTrue_chain (thn (ha pins s σ H _ I h) fun v s1 ⟨x,H1,I1,r1,q1⟩=>test_link (thn (hb pins s1 σ H1 _ I1 q1) fun u s2 ⟨y,H2,I2,r2,q2⟩=>
  thn (ho pins s2 σ H2 x y v u _ I2 r1 r2 q2) fun d s3 ⟨z,H3,I3,r3,k,e,q3⟩=>?_)) hm
 subst e
 cases r3
 refine wpAny_truthy_bool ?_
 cases k with
 | false=>
  obtain ⟨k',e',q'⟩:=q3
  cases e'
  exact ite_ff ⟨H3,I3,q'⟩
 | true=>
  refine ite_tt (test_last (thn (hc pins s3 σ H3 _ I3 q3) fun w' s4 ⟨z',H4,I4,r4,q4⟩=>thn (ho' pins s4 σ H4 y z' u w' _ I4 r2 r4 q4) fun d' s5 ⟨z2,H5,I5,r5,k2,e2,q5⟩=>?_))
  subst e2
  cases r5
  exact wpAny_truthy_bool ⟨H5,I5,q5⟩
theorem kf:(sizeLine:Nat)<2 ^ 63:=by rw [sizeLine_eq];decide
theorem oR:OpR X (binaryOp .Add) (fun x y H Q=>∃ i j,x=.str i∧y=.str j∧i.length+j.length≤sizeLine∧Q (.str (i++j)) H):=by
 intro pins s σ H x y v u Q I rx ry h
 obtain ⟨i,j,rfl,rfl,hz,q⟩:=h
 obtain ⟨t,rfl⟩:=rx
 obtain ⟨t',rfl⟩:=ry
 exact add_str (fun t' tk=>⟨.str (i++j),H,I.tok _,⟨_,rfl⟩,q⟩) hz
theorem vals1 {x:V} {us:List Value} (r:aF [x] us):∃ u,us=[u]∧RelV x u:=by
 cases r with
 | cons r1 r2=>cases r2;exact ⟨_,rfl,r1⟩
theorem vals2 {x y:V} {us:List Value} (r:aF [x,y] us):∃ u w',us=[u,w']∧RelV x u∧RelV y w':=by
 cases r with
 | cons r1 r2=>
  cases r2 with
  | cons r3 r4=>cases r4;exact ⟨_,_,rfl,r1,r3⟩
theorem call_max2 (hc:X.calm=true):cN X (.builtin "max") (fun xs H Q=>∃ i j,xs=[.int i,.int j]∧Q (.int (if j>i then j else i)) H):=by
 intro pins s σ H xs us Q I r h
 obtain ⟨i,j,rfl,q⟩:=h
 obtain ⟨u,w',rfl,⟨t,rfl⟩,⟨t',rfl⟩⟩:=vals2 r
 refine max_two_ints (I.ok.hd hc) fun h' tk k=>⟨_,H,I.kept k,?_,q⟩
 by_cases hj:j>i
 ·
  rw [if_pos hj,if_pos hj];exact ⟨_,rfl⟩
 ·
  rw [if_neg hj,if_neg hj];exact ⟨_,rfl⟩
theorem call_min2 (hc:X.calm=true):cN X (.builtin "min") (fun xs H Q=>∃ i j,xs=[.int i,.int j]∧Q (.int (if j<i then j else i)) H):=by
 intro pins s σ H xs us Q I r h
 obtain ⟨i,j,rfl,q⟩:=h
 obtain ⟨u,w',rfl,⟨t,rfl⟩,⟨t',rfl⟩⟩:=vals2 r
 refine min_two_ints (I.ok.hd hc) fun h' tk k=>⟨_,H,I.kept k,?_,q⟩
 by_cases hj:j<i
 ·
  rw [if_pos hj,if_pos hj];exact ⟨_,rfl⟩
 ·
  rw [if_neg hj,if_neg hj];exact ⟨_,rfl⟩
end
end L2
namespace L2
open PySem PySem.Spec PyProof.Rows
structure ObjM (h:Heap) (x dx C:Addr) (mA:Str→Option Value):Prop where
 obj:h.get? x=some (PySem.W.instObj C dx)
 ns:h.Ns1 dx mA
 ne:dx≠x
theorem lookIn_ns {h:Heap} {dx:Addr} {mA:Str→Option Value} (n:h.Ns1 dx mA):∃ od,h.get? dx=some od∧∀ name,PySem.W.lookIn name od=some (mA name):=by
 obtain ⟨o,es,ep,ho,hd,hk,_,hm⟩:=n
 refine ⟨o,ho,fun name=>?_⟩
 have e:=hm name
 unfold nsFind findBy at e
 rw [←Array.find?_toList] at e
 unfold PySem.W.lookIn
 rw [hd]
 dsimp only
 split
 ·
  rename_i y q
  rw [q] at e
  exact congrArg some e
 ·
  rename_i q
  rw [q] at e
  have a:es.toList.any (·.refKey)=false:=by
   rw [List.any_eq_false]
   intro y hy
   obtain ⟨z,t,hkey⟩:=hk y (Array.mem_toList_iff.mp hy)
   simp [DictEntry.refKey,hkey]
  have a':¬es.toList.any (·.refKey)=true:=by rw [a];exact Bool.false_ne_true
  rw [if_neg a']
  exact congrArg some e
theorem ObjM.look {h:Heap} {x dx C:Addr} {mA:Str→Option Value} (I:ObjM h x dx C mA):∃ od,PySem.W.InstAt h x (PySem.W.instObj C dx) C (some od)∧∀ name,PySem.W.lookIn name od=some (mA name):=
 let ⟨od,ho,hl⟩:=lookIn_ns I.ns
 ⟨od,⟨I.obj,rfl,rfl,ho⟩,hl⟩
section
variable {prog:Program} {w:World} {A:Around} {E:Value→Shared→Prop} {s:Shared} {K:PySem.W.Frag} {x dx C f:Addr} {mA:Str→Option Value} {name:Str} {v:Value}
theorem get_map {expr:Bool} {Q:Value→Shared→Prop} (X:K.In s.heap) (I:ObjM s.heap x dx C mA) (hg:PySem.W.plainGet K C name=true) (hh:PySem.W.hasDictIn K C=true)
  (ha:PySem.W.findIn K (.ref C) name=some none) (hv:mA name=some v) (hv':PySem.W.handedIn v=true) (h:Q v { s with toks:=s.toks+1 }) :
  wpAny (model prog w) A (getAttr (.ref x) name expr) Q E s:=by
 obtain ⟨od,J,hl⟩:=I.look
 exact PySem.W.get_value X J (PySem.W.plainGet_of hg).1 (PySem.W.findObj_own hh ha rfl (by rw [hl,hv])) hv' h
theorem get_meth {pl:Sem Bool} {Q:Value×List Value→Shared→Prop} (X:K.In s.heap) (I:ObjM s.heap x dx C mA) (hg:PySem.W.plainGet K C name=true)
  (hf:PySem.W.findIn K (.ref C) name=some (some (.ref f))) (ht:PySem.W.isFn K (.ref f)=true) (hv:mA name=none) (h:Q (.ref f,[.ref x]) s) :
  wpAny (model prog w) A (getMethod (.ref x) name pl) Q E s:=by
 obtain ⟨od,J,hl⟩:=I.look
 exact PySem.W.method_fn X J (PySem.W.plainGet_of hg).1 (PySem.W.plainGet_of hg).2 hf (beq_iff_eq.mp ht) (by show (PySem.W.lookIn name od).map (·.isSome)=some false;rw [hl,hv];rfl) h
theorem set_map {ns:List Str} {Q:Unit→Shared→Prop} (X:K.In s.heap) (I:ObjM s.heap x dx C mA)
  (hs:PySem.W.findIn K (.ref C) "__setattr__" = some (some (.builtin "object.__setattr__"))) (hp:PySem.W.plainOver K C=true) (ht:PySem.W.takerIn K C name=some none) (hh:PySem.W.hasDictIn K C=true)
  (hw:PySem.Within mA ns) (hsz:ns.length≤sizeLine)
  (h:∀ h',ObjM h' x dx C (fun y=>if y=name then some v else mA y)→Heap.SameBut dx s.heap h'→Q () { s with heap:=h',toks:=s.toks+2 }) :
  wpAny (model prog w) A (setAttr (.ref x) name v) Q E s:=by
 obtain ⟨od,J,hl⟩:=I.look
 refine PySem.W.set_plain X J hs (PySem.W.osa_open (s:={ s with toks:=s.toks+1 }) (r:=none) X J hp ht fun b=>?_)
 obtain ⟨cd,hc,hd'⟩:=PySem.W.any_some hh
 have hx:s.heap.get? x=some ⟨.ref C,some dx,.plain,#[]⟩:=I.obj
 refine wpAny_bind (wpAny_pure (wpAny_bind (wpAny_bind (wpAny_loadPart hx (wpAny_bind (PySem.W.Looks.here (s:={ s with toks:=s.toks+1 }) (PySem.W.looks_clsIn X hc) ?_))))))
 rw [hd']
 refine wpAny_pure (a:=some dx) (wpAny_bind (wpAny_pure (wpAny_bind ?_)))
 refine wpAny_nsSet1 (s:={ s with toks:=s.toks+1 }) I.ns fun h' hn2 hs2=>?_
 obtain ⟨oD,esD,epD,hoD,hdD,hcD⟩:=hn2.count (PySem.Within.cons name v hw)
 refine wpAny_bind (wpAny_lookBehind hoD (by rw [hdD];exact pastItsLine_dict (Nat.le_trans hcD (by rw [List.length_cons];omega))) ?_)
 exact wpAny_pure (h _ ⟨(hs2.2 _ (Ne.symm I.ne)).trans I.obj,hn2,I.ne⟩ hs2)
theorem make_map {R:Result→Shared→Prop} {vs:List Value} {kw:List (Str×Value)} (X:K.In s.heap) (hm:PySem.W.makesIn K C=true)
  (hi:PySem.W.findIn K (.ref C) "__init__" = some (some (.ref f))) (hf:PySem.W.typeIn K (.ref f)=some (.type "function"))
  (h:codeAny (model prog w) (A.under (.builtin "type.__call__" ⟨.ref C::vs,kw⟩)) (.call (.ref f) ⟨.ref (s.heap.objs.size+1)::vs,kw⟩) (PySem.W.InitBack (s.heap.objs.size+1) R)
   { s with heap:=(s.heap.push PySem.W.emptyDict).push (PySem.W.instObj C s.heap.objs.size) }) :
  codeAny (model prog w) A (.call (.ref C) ⟨vs,kw⟩) R s:=by
 obtain ⟨hh,g,d,t,os⟩:=s
 exact PySem.W.make_core (PySem.W.makes_of X hm) (PySem.W.looks_findIn X hi) (fun self=>PySem.W.bind_fn X self hf) (.inl rfl) h
end
def fP (f:Str) (v:V):List (Str×V)→List (Str×V)
  | []=>[(f,v)]
  | (g,x)::r=>if g=f then (g,v)::r else (g,x)::fP f v r
theorem i9 (f g:Str) (v:V):∀ fs:List (Str×V),(fP f v fs).lookup g=if g=f then some v else fs.lookup g
  | []=>by
    show List.lookup g [(f,v)]=_
    by_cases h:g=f
    · have hb:(g==f)=true:=beq_iff_eq.mpr h
      simp only [List.lookup,hb,if_pos h]
    · have hb:(g==f)=false:=beq_eq_false_iff_ne.mpr h
      simp only [List.lookup,hb,if_neg h]
  | (k,x)::r=>by
    have ih:=i9 f g v r
    rw [show fP f v ((k,x)::r)=(if k=f then (k,v)::r else (k,x)::fP f v r) from rfl]
    by_cases hk:k=f
    · rw [if_pos hk]
      by_cases h:g=k
      · have hb:(g==k)=true:=beq_iff_eq.mpr h
        simp only [List.lookup,hb,if_pos (h.trans hk)]
      · have hb:(g==k)=false:=beq_eq_false_iff_ne.mpr h
        simp only [List.lookup,hb,if_neg (fun e:g=f=>h (e.trans hk.symm))]
    · rw [if_neg hk]
      by_cases h:g=k
      · have hb:(g==k)=true:=beq_iff_eq.mpr h
        simp only [List.lookup,hb,if_neg (fun e:g=f=>hk (h.symm.trans e))]
      · have hb:(g==k)=false:=beq_eq_false_iff_ne.mpr h
        simp only [List.lookup,hb]
        exact ih
theorem iK (f:Str) (v:V):∀ fs:List (Str×V),f∈(fP f v fs).map (·.1)∧∀ g,g∈fs.map (·.1)→g∈(fP f v fs).map (·.1)
  | []=>⟨by simp [fP],fun g h=>by simp at h⟩
  | (k,x)::r=>by
    obtain ⟨i1,i2⟩:=iK f v r
    rw [show fP f v ((k,x)::r)=(if k=f then (k,v)::r else (k,x)::fP f v r) from rfl]
    by_cases hk:k=f
    · rw [if_pos hk]
      subst hk
      exact ⟨by simp,fun g h=>by simpa using h⟩
    · rw [if_neg hk]
      refine ⟨?_,fun g h=>?_⟩
      · rw [List.map_cons]
        exact List.mem_cons_of_mem _ i1
      · rw [List.map_cons] at h ⊢
        rcases List.mem_cons.mp h with e | e
        · exact List.mem_cons.mpr (.inl e)
        · exact List.mem_cons_of_mem _ (i2 g e)
theorem ja (f:Str) (v:V):∀ fs:List (Str×V),(fP f v fs).length≤fs.length+1
  | []=>by simp [fP]
  | (k,x)::r=>by
    have ih:=ja f v r
    rw [show fP f v ((k,x)::r)=(if k=f then (k,v)::r else (k,x)::fP f v r) from rfl]
    by_cases hk:k=f
    · rw [if_pos hk,List.length_cons,List.length_cons];omega
    · rw [if_neg hk,List.length_cons,List.length_cons];omega
theorem RelO.some_of {v:V} {o:Option Value} (r:RelO (some v) o):∃ u,o=some u∧RelV v u:=by
 cases o with
 | none=>exact (show False from r).elim
 | some u=>exact ⟨u,rfl,r⟩
theorem RelO.none_of {o:Option Value} (r:RelO none o):o=none:=by
 cases o with
 | none=>rfl
 | some u=>exact (show False from r).elim
theorem handed_of {v:V} {u:Value} (r:RelV v u):PySem.W.handedIn u=true:=by
 cases v with
 | non=>cases (show u=Value.none from r);rfl
 | bl b=>cases (show u=Value.bool b from r);rfl
 | int i=>obtain ⟨t,e⟩:=(show ∃ t,u=Value.int i t from r);cases e;rfl
 | str x=>obtain ⟨t,e⟩:=(show ∃ t,u=Value.str x t from r);cases e;rfl
 | byt b=>obtain ⟨t,e⟩:=(show ∃ t,u=Value.bytes b t from r);cases e;rfl
 | flt b=>obtain ⟨t,e⟩:=(show ∃ t,u=Value.float b t from r);cases e;rfl
 | ref a=>cases (show u=Value.ref a from r);rfl
 | ty n=>cases (show u=Value.type n from r);rfl
section
variable {P:Program} {w:World} {H H':Hp} {h h':Heap} {a C dx:Addr} {fs fs':List (Str×V)}
theorem jR (hok:HOk P w H h) (e:H a=some (.ins C dx fs)):∃ mA,ObjM h a dx C mA∧(∀ f,RelO (fs.lookup f) (mA f))∧PySem.Within mA (fs.map (·.1))∧fs.length≤1000∧H dx=some (.own a):=by
 obtain ⟨d,z,ne,ob,mA,n,r,q⟩:=(show cp P w H h a (.ins C dx fs) from hok a _ e)
 exact ⟨mA,⟨ob,n,ne⟩,r,q,z,d⟩
end
structure Cls (K:PySem.W.Frag) (C:Addr):Prop where
 pg:PySem.W.plainGet K C Str.empty=true
 hd:PySem.W.hasDictIn K C=true
 po:PySem.W.plainOver K C=true
 sa:PySem.W.findIn K (.ref C) "__setattr__" = some (some (.builtin "object.__setattr__"))
theorem Cls.get {K:PySem.W.Frag} {C:Addr} (c:Cls K C) (f:Str):PySem.W.plainGet K C f=true:=c.pg
def NoAttr (K:PySem.W.Frag) (C:Addr) (f:Str):Prop:=PySem.W.findIn K (.ref C) f=some none
theorem NoAttr.taker {K:PySem.W.Frag} {C:Addr} {f:Str} (n:NoAttr K C f):PySem.W.takerIn K C f=some none:=by
 unfold PySem.W.takerIn
 rw [show PySem.W.findIn K (.ref C) f=some none from n]
 rfl
structure Meth (K:PySem.W.Frag) (C:Addr) (m:Str) (f:Addr):Prop where
 at_:PySem.W.findIn K (.ref C) m=some (some (.ref f))
 fn:PySem.W.isFn K (.ref f)=true
 kp:PySem.W.keepIn K (.ref f)=true
section
variable {X:Cx} {pins:List (Addr×Obj)} {σ:St} {H:Hp} {s:Shared} {a C dx:Addr} {fs:List (Str×V)} {f:Str} {v:V} {A:Around} {E:Value→Shared→Prop}
theorem oS {b:Bool} {Q:Value→Shared→Prop} (I:Inv X pins σ H s) (e:H a=some (.ins C dx fs)) (c:Cls X.K C) (n:NoAttr X.K C f) (l:fs.lookup f=some v)
  (h:∀ u s',Inv X pins σ H s'→RelV v u→Q u s'):wpAny (model X.prog X.w) A (getAttr (.ref a) f b) Q E s:=by
 obtain ⟨mA,O,r,_,_,_⟩:=jR I.hok e
 obtain ⟨u,hu,ru⟩:=RelO.some_of (v:=v) (o:=mA f) (by rw [←l];exact r f)
 exact get_map I.kIn O (c.get f) c.hd n hu (handed_of ru) (h u _ (I.tok _) ru)
theorem gI {m:Str} {g:Addr} {pl:Sem Bool} {Q:Value×List Value→Shared→Prop} (I:Inv X pins σ H s) (e:H a=some (.ins C dx fs)) (c:Cls X.K C) (k:Meth X.K C m g) (l:fs.lookup m=none)
  (h:Q (.ref g,[.ref a]) s):wpAny (model X.prog X.w) A (getMethod (.ref a) m pl) Q E s:=by
 obtain ⟨mA,O,r,_,_,_⟩:=jR I.hok e
 have hn:mA m=none:=RelO.none_of (by rw [←l];exact r m)
 exact get_meth I.kIn O (c.get m) k.at_ k.fn hn h
theorem oU {y:V} {u:Value} {Q:Unit→Shared→Prop} (I:Inv X pins σ H s) (e:H a=some (.ins C dx fs)) (c:Cls X.K C) (n:NoAttr X.K C f) (hl:fs.length<1000) (ry:RelV y u)
  (h:∀ s',Inv X pins σ (upd H a (.ins C dx (fP f y fs))) s'→Q () s'):wpAny (model X.prog X.w) A (setAttr (.ref a) f u) Q E s:=by
 obtain ⟨mA,O,r,wi,_,ho⟩:=jR I.hok e
 have hz:(fs.map (·.1)).length≤sizeLine:=by rw [List.length_map,sizeLine_eq];omega
 refine set_map I.kIn O c.sa c.po n.taker c.hd wi hz fun h' O' sb=>h _ ?_
 have hd:∃ o,h'.get? dx=some o:=let ⟨o,_,_,e',_⟩:=O'.ns;⟨o,e'⟩
 refine I.write (x:=a) (e:=dx) (by rw [e];exact True.intro) (.inr ho) (fun b q hb z=>(sb.2 b hb).trans z) hd ?_
 refine ⟨by rw [aB O.ne];exact ho,?_,O.ne,O'.obj,_,O'.ns,fun g=>?_,fun g hg=>?_⟩
 ·
  have:=ja f y fs;omega
 ·
  show RelO ((fP f y fs).lookup g) (if g=f then some u else mA g)
  rw [i9]
  by_cases q:g=f
  ·
   rw [if_pos q,if_pos q];exact ry
  ·
   rw [if_neg q,if_neg q];exact r g
 ·
  by_cases q:g=f
  ·
   rw [q];exact (iK f y fs).1
  ·
   refine (iK f y fs).2 g (wi g fun z=>hg ?_)
   show (if g=f then some u else mA g)=none
   rw [if_neg q];exact z
theorem Inv.made (I:Inv X pins σ H s):Inv X pins σ (upd (upd H s.heap.objs.size (.own (s.heap.objs.size+1))) (s.heap.objs.size+1) (.ins C s.heap.objs.size []))
  { s with heap:=(s.heap.push PySem.W.emptyDict).push (PySem.W.instObj C s.heap.objs.size) }:=by
 have e1:(s.heap.push PySem.W.emptyDict).get? s.heap.objs.size=some PySem.W.emptyDict:=Heap.get?_push_size s.heap rfl
 have e2:((s.heap.push PySem.W.emptyDict).push (PySem.W.instObj C s.heap.objs.size)).get? (s.heap.objs.size+1)=some (PySem.W.instObj C s.heap.objs.size):=by
  have:=Heap.get?_push_size (s.heap.push PySem.W.emptyDict) (o:=PySem.W.instObj C s.heap.objs.size) rfl
  rwa [Heap.size_push] at this
 have e3:(s.heap.push PySem.W.emptyDict).Ns s.heap.objs.size (fun _=>none):=⟨PySem.W.emptyDict,#[],_,e1,rfl,(fun e he=>absurd he (by simp)),fun _=>rfl⟩
 have I1:=I.laid (a:=s.heap.objs.size) (o:=.own (s.heap.objs.size+1)) (h':=s.heap.push PySem.W.emptyDict) (t':=s.toks) (fun b u q=>Heap.get?_push_of_some _ q) (Nat.le_refl _) ⟨_,e1⟩
 refine I1.laid (a:=s.heap.objs.size+1) (o:=.ins C s.heap.objs.size []) (t':=s.toks) (fun b u q=>Heap.get?_push_of_some _ q) (Nat.le_of_eq (Heap.size_push _ _)) ?_
 have ne:s.heap.objs.size≠s.heap.objs.size+1:=Nat.ne_of_lt (Nat.lt_succ_self _)
 refine ⟨by rw [aB ne,aA],Nat.zero_le _,ne,e2,fun _=>none,(Heap.Ns1.of_empty e3).at fun o q=>Heap.get?_push_of_some _ q,fun _=>True.intro,fun y hy=>absurd rfl hy⟩
theorem attr_of {prog:Program} {w:World} {env:Env} {e:Expr} {f:Str} {pos:Pos} {s:Shared} {Q:Value→Shared→Prop} (hb:attributeBase e f env (eval e env)=eval e env)
  (h:wpAny (model prog w) A (eval e env) (fun o s₁=>wpAny (model prog w) A (getAttr o f true) Q E s₁) E s):wpAny (model prog w) A (eval (.Attribute e f pos) env) Q E s:=
 Attribute_any_ h (by rw [arm_eval_Attribute,hb])
end
def tFld (K:PySem.W.Frag) (ta:TE) (f:Str):TE:=fun σ H Q=>ta σ H fun x H1=>∃ a C dx fs v,x=.ref a∧H1 a=some (.ins C dx fs)∧Cls K C∧NoAttr K C f∧fs.lookup f=some v∧Q v H1
def sFld (K:PySem.W.Frag) (ta tv:TE) (f:Str):TS:=fun D σ H=>tv σ H fun y H1=>ta σ H1 fun x H2=>∃ a C dx fs,x=.ref a∧H2 a=some (.ins C dx fs)∧Cls K C∧NoAttr K C f∧fs.length<1000∧
 D.nx σ (upd H2 a (.ins C dx (fP f y fs)))
section
variable {X:Cx} {o e value:Expr} {f:Str} {pos pos' tpos:Pos} {ta tv:TE}
theorem pe_fld (he:PE X e ta) (hb:attributeBase e f X.env (eval e X.env)=eval e X.env):PE X (.Attribute e f pos) (tFld X.K ta f):=by
 intro pins s σ H Q I h
 refine attr_of hb (thn (he pins s σ H _ I h) fun u s1 ⟨x,H1,I1,rx,a,C,dx,fs,v,ex,ea,c,n,l,q⟩=>?_)
 subst ex
 obtain rfl:u=Value.ref a:=rx
 exact oS I1 ea c n l fun u' s2 I2 ru=>⟨v,H1,I2,ru,q⟩
theorem ps_fld (ha:PE X o ta) (hv:PE X value tv) (hs:swapsWith value (some (.Attribute o f pos')) pos.line X.env=pure false):PS X (.Assign [.Attribute o f pos'] value pos) (sFld X.K ta tv f):=by
 intro pins s σ H D I h
 refine plainObj_wpAny_Assign_Attribute (thn (hv pins s σ H _ I h) fun u s1 ⟨y,H1,I1,ry,q⟩=>thn (ha pins s1 σ H1 _ I1 q) fun ov s2 ⟨x,H2,I2,rx,a,C,dx,fs,ex,ea,c,n,l,q2⟩=>?_) hs
 subst ex
 obtain rfl:ov=Value.ref a:=rx
 exact oU I2 ea c n l ry fun s3 I3=>⟨σ,_,I3,q2⟩
theorem methcall_of {pl:Sem Bool} {m:Str} {apos:Pos} {args:List Expr} {pins:List (Addr×Obj)} {s:Shared} {σ:St} {H:Hp} {Q:Value→Shared→Prop} {te:TE} (he:PE X e te) (I:Inv X pins σ H s)
  (h:te σ H fun x H1=>∃ a C dx fs g,x=.ref a∧H1 a=some (.ins C dx fs)∧Cls X.K C∧Meth X.K C m g∧fs.lookup m=none∧
   ∀ s1,Inv X pins σ H1 s1→wpAny (model X.prog X.w) X.A (callWith pos (.ref g) [.ref a] (backTo pos (starEach args X.env)) (backToKw pos (keywordEach [] X.env))) Q X.xe s1)
  (ht:eval (.Call (.Attribute e m apos) args [] pos) X.env=(do
   let ov ←eval e X.env
   standAt apos.atName
   let (f,first) ←holding [ov] (getMethod ov m pl)
   callWith pos f first (backTo pos (starEach args X.env)) (backToKw pos (keywordEach [] X.env)))) :
  wpAny (model X.prog X.w) X.A (eval (.Call (.Attribute e m apos) args [] pos) X.env) Q X.xe s:=by
 refine PySem.W.methodCall_KW (pl:=pl) (thn (he pins s σ H _ I h) fun u s1 ⟨x,H1,I1,rx,a,C,dx,fs,g,ex,ea,c,k,l,q⟩=>?_) ht
 subst ex
 obtain rfl:u=Value.ref a:=rx
 exact gI I1 ea c k l (q s1 I1)
end
section
variable {X:Cx} {pins:List (Addr×Obj)} {σ:St} {H:Hp} {s:Shared} {A:Around} {E:Value→Shared→Prop} {Q:Value→Shared→Prop} {c:Value} {b:Bool}
inductive hE (K:PySem.W.Frag) (H:Hp):V→Value→Prop where
 | non:hE K H .non (.type "NoneType")
 | bl (x:Bool):hE K H (.bl x) (.type "bool")
 | int (i:Int):hE K H (.int i) (.type "int")
 | str (x:Str):hE K H (.str x) (.type "str")
 | flt (x:UInt64):hE K H (.flt x) (.type "float")
 | lst {a:Addr} {xs:List V} (e:H a=some (.lst xs)):hE K H (.ref a) (.type "list")
 | frz {a:Addr} {o:Obj} {xs:List V} (e:H a=some (.frz o (.lst xs))):hE K H (.ref a) (.type "list")
 | tup {a:Addr} {xs:List V} (e:H a=some (.tup xs)):hE K H (.ref a) (.type "tuple")
 | dK {a:Addr} {kvs:List (Key×V)} (e:H a=some (.dK kvs)):hE K H (.ref a) (.type "dict")
 | dT {a:Addr} {kvs:List (List Key×V)} (e:H a=some (.dT kvs)):hE K H (.ref a) (.type "dict")
 | ins {a C dx:Addr} {fs:List (Str×V)} (e:H a=some (.ins C dx fs)) (cl:Cls K C) (ha:PySem.W.findIn K (.ref C) "__class__" = some (some (.builtin "object.__class__")))
  (hn:PySem.W.specialIn K (.builtin "object.__class__") "__get__" = some (some (.builtin "getset_descriptor.__get__"))) (htk:PySem.W.takesIn K (.builtin "object.__class__")=some true)
  (hm:PySem.W.mroIn K C (.type "object")=some true):hE K H (.ref a) (.ref C)
theorem isinst_ok {x:V} {u t:Value} (I:Inv X pins σ H s) (rx:RelV x u) (ty:hE X.K H x t) (e:PySem.W.kitOne X.K t c=some b) (h:∀ tk,Q (.bool b) { s with toks:=tk }) :
  wpAny (model X.prog X.w) A (call (.builtin "isinstance") [u,c]) Q E s:=by
 cases ty with
 | non=>cases (show u=Value.none from rx);exact PySem.W.kia_one PySem.W.kitx_none I.kIn True.intro e (fun z=>nomatch z) h
 | bl y=>cases (show u=Value.bool y from rx);exact PySem.W.kia_one PySem.W.kitx_bool I.kIn True.intro e (fun z=>nomatch z) h
 | int i=>obtain ⟨t,q⟩:=(show ∃ t,u=Value.int i t from rx);cases q;exact PySem.W.kia_one PySem.W.kitx_int I.kIn True.intro e (fun z=>nomatch z) h
 | str y=>obtain ⟨t,q⟩:=(show ∃ t,u=Value.str y t from rx);cases q;exact PySem.W.kia_one PySem.W.kitx_str I.kIn True.intro e (fun z=>nomatch z) h
 | flt y=>obtain ⟨t,q⟩:=(show ∃ t,u=Value.float y t from rx);cases q;exact PySem.W.kia_one PySem.W.kitx_float I.kIn True.intro e (fun z=>nomatch z) h
 | @lst a xs ea=>
  cases (show u=Value.ref a from rx)
  obtain ⟨_,_,n,_,h1⟩:=(show cp X.prog X.w H s.heap a (.lst xs) from I.hok a _ ea)
  exact PySem.W.kia_one PySem.W.kitx_list I.kIn ⟨_,h1,rfl⟩ e (fun z=>nomatch z) h
 | @frz a ob xs ea=>
  cases (show u=Value.ref a from rx)
  obtain ⟨_,_,_,n,_,h1⟩:=(show cp X.prog X.w H s.heap a (.frz ob (.lst xs)) from I.hok a _ ea)
  exact PySem.W.kia_one PySem.W.kitx_list I.kIn ⟨_,h1,rfl⟩ e (fun z=>nomatch z) h
 | @tup a xs ea=>
  cases (show u=Value.ref a from rx)
  obtain ⟨_,_,_,p⟩:=(show cp X.prog X.w H s.heap a (.tup xs) from I.hok a _ ea)
  obtain ⟨o,h1,h2,_⟩:=p
  exact PySem.W.kia_one PySem.W.kitx_tuple I.kIn ⟨o,h1,h2⟩ e (fun z=>nomatch z) h
 | @dK a kvs ea=>
  cases (show u=Value.ref a from rx)
  obtain ⟨_,_,vs,_,p⟩:=(show cp X.prog X.w H s.heap a (.dK kvs) from I.hok a _ ea)
  obtain ⟨o,es,ep,h1,h2,_⟩:=p
  exact PySem.W.kia_one PySem.W.kitx_dict I.kIn ⟨o,h1,h2.1⟩ e (fun z=>nomatch z) h
 | @dT a kvs ea=>
  cases (show u=Value.ref a from rx)
  obtain ⟨_,_,xs,_,o,es,ep,h1,h2,_⟩:=(show cp X.prog X.w H s.heap a (.dT kvs) from I.hok a _ ea)
  exact PySem.W.kia_one PySem.W.kitx_dict I.kIn ⟨o,h1,h2.1⟩ e (fun z=>nomatch z) h
 | @ins a C dx fs ea cl ha hn htk hm=>
  cases (show u=Value.ref a from rx)
  obtain ⟨mA,O,_⟩:=jR I.hok ea
  obtain ⟨od,J,_⟩:=O.look
  exact PySem.W.kia_one (PySem.W.kitx_own (cl.get _) cl.hd ha hn htk hm) I.kIn J e (fun z=>nomatch z) h
end
end L2
namespace L2
open PySem PySem.Spec PyProof.Rows
structure bq (k:Nat) (A:Around):Prop where
 hd:A.handled=none
 dp:A.depth+3*k+5<recursionLimit
 un:A.units+16*k+200<cLine
theorem bq.mono {j k:Nat} {A:Around} (r:bq k A) (h:j≤k):bq j A:=⟨r.hd,by have:=r.dp;omega,by have:=r.un;omega⟩
theorem bq.deeper {k:Nat} {A:Around} (r:bq (k+1) A) (env:Env):bq k (A.deeper env):=
 ⟨r.hd,by have:=r.dp;show A.depth+1+3*k+5<_;omega,by have:=r.un;show A.units+3+16*k+200<_;omega⟩
theorem oV {A:Around} {C:Addr} {us:List Value} {kw:List (Str×Value)}:(A.under (.builtin "type.__call__" ⟨.ref C::us,kw⟩)).depth=A.depth+1:=by
 first | rfl | simp [Around.under,Code.weight,Code.isCreation,Code.isGuard,Code.isCaller,Code.frames,Code.isFrame,guardIds]
theorem oW {A:Around} {C:Addr} {us:List Value} {kw:List (Str×Value)}:(A.under (.builtin "type.__call__" ⟨.ref C::us,kw⟩)).units=A.units+1:=by
 first | rfl | simp [Around.under,Code.cUnits,Code.frames,Code.isFrame]
theorem bq.make {k:Nat} {A:Around} (r:bq (k+1) A) (C:Addr) (us:List Value) (kw:List (Str×Value)):bq k (A.under (.builtin "type.__call__" ⟨.ref C::us,kw⟩)):=
 ⟨r.hd,by have:=r.dp;rw [oV];omega,by have:=r.un;rw [oW];omega⟩
theorem bq.depth {k:Nat} {A:Around} (r:bq k A):A.depth<recursionLimit:=by have:=r.dp;omega
def tNil:TA:=fun _ H Q=>Q [] H
def tCons (ta:TE) (tr:TA):TA:=fun σ H Q=>ta σ H fun x H1=>tr σ H1 fun xs H2=>Q (x::xs) H2
section
variable {X:Cx} {e:Expr} {es:List Expr} {te:TE} {t:TA} {pos:Pos}
theorem eZ:PA X [] tNil:=fun _ _ _ _ H Q I h=>Calls.spliced_nil ⟨[],H,I,.nil,h⟩
theorem cz (ha:PE X e te) (hr:PA X es t) (hs:starEach (e::es) X.env=(false,eval e X.env)::starEach es X.env:=by rfl):PA X (e::es) (tCons te t):=by
 intro pos pins s σ H Q I h
 rw [hs]
 show wpAny _ _ (spliced ((false,eval e X.env)::backTo pos (starEach es X.env))) _ _ s
 refine Calls.spliced_cons (thn (ha pins s σ H _ I h) fun u s1 ⟨x,H1,I1,r1,q1⟩=>?_)
 exact thn (hr pos pins s1 σ H1 _ I1 q1) fun us s2 ⟨xs,H2,I2,r2,q2⟩=>⟨x::xs,H2,I2,.cons r1 r2,q2⟩
def tTup (t:TA):TE:=fun σ H Q=>t σ H fun xs H1=>xs.length≤sizeLine∧∀ p,H1 p=none→Q (.ref p) (upd H1 p (.tup xs))
def tLst (t:TA):TE:=fun σ H Q=>t σ H fun xs H1=>xs.length≤sizeLine∧∀ p,H1 p=none→Q (.ref p) (upd H1 p (.lst xs))
theorem pe_tup {x1} (h:PA X es t):PE X (.Tuple es x1 pos) (tTup t):=by
 intro pins s σ H Q I hq
 refine wpAny_Tuple_spliced (thn (h pos pins s σ H _ I hq) fun us s1 ⟨xs,H1,I1,r,z,q⟩=>⟨by rw [←r.length];exact z,?_⟩)
 have hf:H1 s1.heap.objs.size=none:=I1.hok.fresh (Nat.le_refl _)
 refine ⟨.ref s1.heap.objs.size,upd H1 s1.heap.objs.size (.tup xs),I1.laid (t':=s1.toks) (fun b u e=>Heap.get?_push_of_some _ e) (Nat.le_refl _) ?_,rfl,q _ hf⟩
 exact ⟨z,us,r,⟨_,Heap.get?_push_size _ rfl,rfl,_,rfl⟩⟩
theorem pe_lst (h:PA X es t):PE X (.List es pos) (tLst t):=by
 intro pins s σ H Q I hq
 refine wpAny_List_spliced (thn (h pos pins s σ H _ I hq) fun us s1 ⟨xs,H1,I1,r,z,q⟩=>⟨by rw [←r.length];exact z,?_⟩)
 have hf:H1 s1.heap.objs.size=none:=I1.hok.fresh (Nat.le_refl _)
 refine ⟨.ref s1.heap.objs.size,upd H1 s1.heap.objs.size (.lst xs),I1.laid (t':=s1.toks) (fun b u e=>Heap.get?_push_of_some _ e) (Nat.le_refl _) ?_,rfl,q _ hf⟩
 exact ⟨z,us,0,r,Heap.get?_push_size _ rfl⟩
end
abbrev Sp:=List V→Hp→VK→XK→Prop
abbrev CXT:=List Env→Hp→Shared→XK→Value→Shared→Prop
structure Env0 (P:Program) (w:World) (K:PySem.W.Frag) (mg:Str→Option Value) (base:Heap) (A:Around) (outer:List Env) (s:Shared) (H:Hp):Prop where
 frames:A.frames=some outer
 mod:Mod K mg base
 bs:∀ b o,base.get? b=some o→s.heap.get? b=some o∧H b=none
 bsz:base.objs.size≤s.heap.objs.size
 funs:s.heap.FunFrames base outer
 frf:∀ b∈frs outer,H b=none
 hok:HOk P w H s.heap
 bare:AllBare s.gens
def CE (outer:List Env) (P:Program) (w:World) (H:Hp) (s:Shared) (Q:VK) (u:Value) (s':Shared):Prop:=
 ∃ v H',s'.os=s.os∧AllBare s'.gens∧Un (frs outer) [] H H' s.heap s'.heap∧HOk P w H' s'.heap∧RelV v u∧Q v H'
def CR (CX:CXT) (outer:List Env) (P:Program) (w:World) (H:Hp) (s:Shared) (Q:VK) (E:XK) (r:Result) (s':Shared):Prop:=
 match r with
 | .ok (.ret u)=>CE outer P w H s Q u s'
 | .ok _=>False
 | .error e=>CX outer H s E e s'
structure dM (P:Program) (w:World) (K:PySem.W.Frag) (mg:Str→Option Value) (base:Heap) (CX:CXT) (k:Nat) (f:Addr) (fd:FuncData) (ps:List Str) (sp:Sp):Prop where
 len:∀ vs H Q E,sp vs H Q E→vs.length=ps.length
 run:∀ (A:Around) (outer:List Env) (s:Shared) (H:Hp) (args:Args) (us:List Value) (vs:List V) (Q:VK) (E:XK),bq k A→Env0 P w K mg base A outer s H→BindsTo s fd args (ps.zip us)→aF vs us→sp vs H Q E→
  codeAny (model P w) A (.call (.ref f) args) (CR CX outer P w H s Q E) s
theorem dM.imp {P:Program} {w:World} {K:PySem.W.Frag} {mg:Str→Option Value} {base:Heap} {CX:CXT} {k:Nat} {f:Addr} {fd:FuncData} {ps:List Str} {sp sp':Sp} (F:dM P w K mg base CX k f fd ps sp)
  (h:∀ vs H Q E,sp' vs H Q E→sp vs H Q E):dM P w K mg base CX k f fd ps sp':=
 ⟨fun vs H Q E q=>F.len vs H Q E (h _ _ _ _ q),fun A outer s H args us vs Q E hr he hb hv hs=>F.run A outer s H args us vs Q E hr he hb hv (h _ _ _ _ hs)⟩
theorem Env0.make {P:Program} {w:World} {K:PySem.W.Frag} {mg:Str→Option Value} {base:Heap} {A:Around} {outer:List Env} {s:Shared} {H:Hp} (e:Env0 P w K mg base A outer s H) (C:Addr) (us:List Value) (kw:List (Str×Value)) :
 Env0 P w K mg base (A.under (.builtin "type.__call__" ⟨.ref C::us,kw⟩)) outer s H:=⟨by first | exact e.frames | (simpa [Around.under,Code.envs,Code.isFrame,pushEnvs] using e.frames),e.mod,e.bs,e.bsz,e.funs,e.frf,e.hok,e.bare⟩
section
variable {X:Cx} {pins:List (Addr×Obj)} {σ:St} {H:Hp} {s s':Shared}
theorem Inv.env0 (I:Inv X pins σ H s):Env0 X.prog X.w X.K X.mg X.base X.A X.stack s H:=
 ⟨I.ok.frames,I.ok.mod,I.bs,Nat.le_trans I.ok.bsz I.sz,I.stack,I.stkFree,I.hok,I.bare⟩
theorem Inv.after {Q:VK} {u:Value} (I:Inv X pins σ H s) (h:CE X.stack X.prog X.w H s Q u s'):EP X pins σ Q u s':=by
 obtain ⟨v,H',os,bare,un,hok,r,q⟩:=h
 obtain ⟨hh,g,d,t,os'⟩:=s'
 obtain rfl:os'=s.os:=os
 exact ⟨v,H',I.call (h':=hh) (g':=g) (d':=d) (t':=t) (ch:=[]) un hok bare (fun b z=>absurd z (by simp)),r,q⟩
end
def tCall (sp:Sp) (dvs:List V) (E:XK) (t:TA):TE:=fun σ H Q=>t σ H fun vs H1=>sp (vs++dvs) H1 Q E
def tMeth (C:Addr) (m:Str) (sp:Sp) (dvs:List V) (E:XK) (ta:TE) (t:TA):TE:=fun σ H Q=>ta σ H fun x H1=>∃ a dx fs,x=.ref a∧H1 a=some (.ins C dx fs)∧fs.lookup m=none∧
 t σ H1 fun vs H2=>sp (x::(vs++dvs)) H2 Q E
def tMake (C:Addr) (sp:Sp) (dvs:List V) (E:XK) (t:TA):TE:=fun σ H Q=>t σ H fun vs H1=>∀ x dx,H1 x=none→H1 dx=none→dx≠x→
 sp (.ref x::(vs++dvs)) (upd (upd H1 dx (.own x)) x (.ins C dx [])) (fun v H2=>v=.non∧Q (.ref x) H2) E
def Binds (K:PySem.W.Frag) (fd:FuncData) (ps:List Str) (ds:List Value):Prop:=
 ∀ (s:Shared) (us:List Value),K.In s.heap→(us++ds).length=ps.length→BindsTo s fd ⟨us,[]⟩ (ps.zip (us++ds))
theorem Binds.all {K:PySem.W.Frag} {fd:FuncData} {ps:List Str} (h:∀ us:List Value,us.length=ps.length→bindArgs fd ⟨us,[]⟩=pure (ps.zip us)):Binds K fd ps []:=fun s us _ hl=>by
 rw [List.append_nil] at hl ⊢
 exact .of_eq (h us hl)
def gJ (CX:CXT) (X:Cx) (E:XK):Prop:=∀ (pins:List (Addr×Obj)) (σ:St) (H:Hp) (s:Shared) (e:Value) (s':Shared),Inv X pins σ H s→CX X.stack H s E e s'→X.xe e s'
section
variable {X:Cx} {CX:CXT} {k:Nat} {f C:Addr} {fd:FuncData} {ps:List Str} {sp:Sp} {dvs:List V} {ds:List Value} {E:XK} {x m:Str} {p pos apos:Pos} {e o:Expr} {es:List Expr} {ta:TE} {t:TA}
theorem run_fn {pins:List (Addr×Obj)} {σ:St} {H:Hp} {s:Shared} {Q:VK} {us:List Value} {vs:List V} (F:dM X.prog X.w X.K X.mg X.base CX k f fd ps sp) (hr:bq k X.A) (hb:Binds X.K fd ps ds) (hd:aF dvs ds) (hx:gJ CX X E)
  (I:Inv X pins σ H s) (r:aF vs us) (h:sp (vs++dvs) H Q E):wpAny (model X.prog X.w) X.A (call (.ref f) us) (EP X pins σ Q) X.xe s:=by
 have r2:aF (vs++dvs) (us++ds):=r.append hd
 have hl:(us++ds).length=ps.length:=by rw [←r2.length];exact F.len _ _ _ _ h
 refine wpAny_call (codeAny_mono (F.run X.A X.stack s H ⟨us,[]⟩ (us++ds) (vs++dvs) Q E hr I.env0 (hb s us I.kIn hl) r2 h) fun r s' hq=>?_)
 cases r with
 | error e=>exact hx pins σ H s e s' I hq
 | ok fl=>
  cases fl with
  | ret u=>exact I.after hq
  | next=>exact False.elim hq
  | brk=>exact False.elim hq
  | cont=>exact False.elim hq
theorem lZ (F:dM X.prog X.w X.K X.mg X.base CX k f fd ps sp) (hr:bq k X.A) (hg:Gl X x) (hm:X.mg x=some (.ref f)) (hk:PySem.W.keepIn X.K (.ref f)=true) (hb:Binds X.K fd ps ds) (hd:aF dvs ds) (hx:gJ CX X E)
  (ha:PA X (e::es) t) (hdb:(x==("__debug__" : Str))=false:=by decide) (he:starEach (e::es) X.env=(false,eval e X.env)::starEach es X.env:=by rfl) (hpl:(backTo pos (starEach es X.env)).any (·.1)=false:=by rfl) :
  PE X (.Call (.Name x p) (e::es) [] pos) (tCall sp dvs E t):=by
 intro pins s σ H Q I h
 refine wpAny_Call_Name_kw (lY I hg hm ?_ hdb)
 refine PySem.W.callWith_K (h₀:=X.base) I.ok.mod.kin hk (thn (ha pos pins s σ H _ I h) fun us s1 ⟨vs,H1,I1,r,q⟩=>⟨I1.kIn,?_⟩) he hpl
 exact run_fn F hr hb hd hx I1 r q
theorem pe_meth {pl:Sem Bool} (he:PE X o ta) (c:Cls X.K C) (hm:Meth X.K C m f) (F:dM X.prog X.w X.K X.mg X.base CX k f fd ps sp) (hr:bq k X.A) (hb:Binds X.K fd ps ds) (hd:aF dvs ds) (hx:gJ CX X E) (ha:PA X (e::es) t)
  (hst:starEach (e::es) X.env=(false,eval e X.env)::starEach es X.env:=by rfl) (hpl:(backTo pos (starEach es X.env)).any (·.1)=false:=by rfl)
  (ht:eval (.Call (.Attribute o m apos) (e::es) [] pos) X.env=(do
   let ov ←eval o X.env
   standAt apos.atName
   let (f,first) ←holding [ov] (getMethod ov m pl)
   callWith pos f first (backTo pos (starEach (e::es) X.env)) (backToKw pos (keywordEach [] X.env))):=by rfl) :
  PE X (.Call (.Attribute o m apos) (e::es) [] pos) (tMeth C m sp dvs E ta t):=by
 intro pins s σ H Q I h
 refine PySem.W.methodCall_KW (pl:=pl) (thn (he pins s σ H _ I h) fun u s1 ⟨x,H1,I1,rx,a,dx,fs,ex,ea,l,q⟩=>?_) ht
 subst ex
 obtain rfl:u=Value.ref a:=rx
 refine gI I1 ea c hm l ?_
 refine PySem.W.callWith_K (first:=[.ref a]) (h₀:=X.base) I.ok.mod.kin hm.kp (thn (ha pos pins s1 σ H1 _ I1 q) fun us s2 ⟨vs,H2,I2,r,q2⟩=>⟨I2.kIn,?_⟩) hst hpl
 exact run_fn (us:=.ref a::us) (vs:=.ref a::vs) F hr hb hd hx I2 (.cons rfl r) q2
theorem pe_meth0 {pl:Sem Bool} (he:PE X o ta) (c:Cls X.K C) (hm:Meth X.K C m f) (F:dM X.prog X.w X.K X.mg X.base CX k f fd ps sp) (hr:bq k X.A) (hb:Binds X.K fd ps ds) (hd:aF dvs ds) (hx:gJ CX X E)
  (ht:eval (.Call (.Attribute o m apos) [] [] pos) X.env=(do
   let ov ←eval o X.env
   standAt apos.atName
   let (f,first) ←holding [ov] (getMethod ov m pl)
   callWith pos f first (backTo pos (starEach [] X.env)) (backToKw pos (keywordEach [] X.env))):=by rfl) :
  PE X (.Call (.Attribute o m apos) [] [] pos) (tMeth C m sp dvs E ta tNil):=by
 intro pins s σ H Q I h
 refine PySem.W.methodCall_KW (pl:=pl) (thn (he pins s σ H _ I h) fun u s1 ⟨x,H1,I1,rx,a,dx,fs,ex,ea,l,q⟩=>?_) ht
 subst ex
 obtain rfl:u=Value.ref a:=rx
 refine gI I1 ea c hm l ?_
 exact PySem.W.callWith_K0 (first:=[.ref a]) I1.kIn hm.kp (run_fn (us:=[.ref a]) (vs:=[.ref a]) F hr hb hd hx I1 (.cons rfl .nil) q)
structure Mk (K:PySem.W.Frag) (C f:Addr):Prop where
 makes:PySem.W.makesIn K C=true
 init:PySem.W.findIn K (.ref C) "__init__" = some (some (.ref f))
 fn:PySem.W.isFn K (.ref f)=true
 kp:PySem.W.keepIn K (.ref C)=true
theorem run_make {pins:List (Addr×Obj)} {σ:St} {H:Hp} {s:Shared} {Q:VK} {us:List Value} {vs:List V} (M:Mk X.K C f) (F:dM X.prog X.w X.K X.mg X.base CX k f fd ps sp) (hr:bq (k+1) X.A) (hb:Binds X.K fd ps ds) (hd:aF dvs ds)
  (hx:gJ CX X E) (I:Inv X pins σ H s) (r:aF vs us)
  (h:∀ x dx,H x=none→H dx=none→dx≠x→sp (.ref x::(vs++dvs)) (upd (upd H dx (.own x)) x (.ins C dx [])) (fun v H2=>v=.non∧Q (.ref x) H2) E) :
  wpAny (model X.prog X.w) X.A (call (.ref C) us) (EP X pins σ Q) X.xe s:=by
 have hq:=h (s.heap.objs.size+1) s.heap.objs.size (I.hok.fresh (Nat.le_succ _)) (I.hok.fresh (Nat.le_refl _)) (Nat.ne_of_lt (Nat.lt_succ_self _))
 have I2:=Inv.made (C:=C) I
 have r2:aF (V.ref (s.heap.objs.size+1)::(vs++dvs)) (Value.ref (s.heap.objs.size+1)::(us++ds)):=.cons rfl (r.append hd)
 have hl:(Value.ref (s.heap.objs.size+1)::us++ds).length=ps.length:=by
  have e:=r2.length
  rw [F.len _ _ _ _ hq] at e
  exact e.symm
 refine wpAny_call (make_map (f:=f) I.kIn M.makes M.init (beq_iff_eq.mp M.fn) (codeAny_mono (F.run _ X.stack _ _ ⟨Value.ref (s.heap.objs.size+1)::us,[]⟩ (Value.ref (s.heap.objs.size+1)::(us++ds)) _ _ E (hr.make C us [])
  (I2.env0.make C us []) (hb _ (Value.ref (s.heap.objs.size+1)::us) I2.kIn hl) r2 hq) fun r s' hq'=>?_))
 cases r with
 | error e=>exact hx pins σ _ _ e s' I2 hq'
 | ok fl=>
  cases fl with
  | ret u=>
   obtain ⟨v,H',I3,rv,ev,q3⟩:=I2.after hq'
   subst ev
   exact ⟨rv,⟨V.ref (s.heap.objs.size+1),H',I3,rfl,q3⟩⟩
  | next=>exact False.elim hq'
  | brk=>exact False.elim hq'
  | cont=>exact False.elim hq'
theorem pe_make (M:Mk X.K C f) (F:dM X.prog X.w X.K X.mg X.base CX k f fd ps sp) (hr:bq (k+1) X.A) (hg:Gl X x) (hm:X.mg x=some (.ref C)) (hb:Binds X.K fd ps ds) (hd:aF dvs ds) (hx:gJ CX X E)
  (ha:PA X (e::es) t) (hdb:(x==("__debug__" : Str))=false:=by decide) (he:starEach (e::es) X.env=(false,eval e X.env)::starEach es X.env:=by rfl) (hpl:(backTo pos (starEach es X.env)).any (·.1)=false:=by rfl) :
  PE X (.Call (.Name x p) (e::es) [] pos) (tMake C sp dvs E t):=by
 intro pins s σ H Q I h
 refine wpAny_Call_Name_kw (lY I hg hm ?_ hdb)
 refine PySem.W.callWith_K (h₀:=X.base) I.ok.mod.kin M.kp (thn (ha pos pins s σ H _ I h) fun us s1 ⟨vs,H1,I1,r,q⟩=>⟨I1.kIn,?_⟩) he hpl
 exact run_make M F hr hb hd hx I1 r q
end
structure dN (N P:List Str) (sc:Scope):Prop where
 kind:sc.kind=.function
 co:sc.isCoroutine=false
 gen:sc.isGenerator=false
 nd:N.Nodup
 pre:N.take P.length=P
 par:∀ x∈P,sc.names.lookup x=some .local∨sc.names.lookup x=some .cell
 nofree:∀ y∈sc.names,y.2≠.free
theorem lr {kindOf:Str→Option NameKind} {x:Str}:∀ {binds:List (Str×Value)} {m:Str→Option Value},(∀ v,(x,v)∉binds)→bindL kindOf binds m x=m x
  | [],_,_=>rfl
  | (n,v)::r,m,h=>by
    unfold bindL
    rw [lr fun w hw=>h w (List.mem_cons_of_mem _ hw)]
    split
    · have:x≠n:=by rintro rfl;exact h v List.mem_cons_self
      simp [this]
    · rfl
theorem lu {kindOf:Str→Option NameKind} {x:Str}:∀ {binds:List (Str×Value)} {m:Str→Option Value},(∀ v,(x,v)∉binds)→bindC kindOf binds m x=m x
  | [],_,_=>rfl
  | (n,v)::r,m,h=>by
    unfold bindC
    rw [lu fun w hw=>h w (List.mem_cons_of_mem _ hw)]
    split
    · rfl
    · have:x≠n:=by rintro rfl;exact h v List.mem_cons_self
      simp [this]
theorem lv {kindOf:Str→Option NameKind} {x:Str} {v:Value}:∀ {P:List Str} {vs:List Value} {i:Nat} {m:Str→Option Value},P.Nodup→P[i]?=some x→vs[i]?=some v→kindOf x=some .local→
  bindL kindOf (P.zip vs) m x=some v
 | [],_,_,_,_,h,_,_=>by simp at h
 | _::_,[],_,_,_,_,h,_=>by simp at h
 | p::P,w::vs,0,m,nd,h1,h2,hk=>by
  simp at h1 h2;subst h1;subst h2
  show bindL kindOf ((p,w)::P.zip vs) m p=_
  unfold bindL
  rw [lr fun v hv=>(List.nodup_cons.mp nd).1 (List.of_mem_zip hv).1,if_pos hk]
  simp
 | p::P,w::vs,i+1,m,nd,h1,h2,hk=>by
  show bindL kindOf ((p,w)::P.zip vs) m x=_
  unfold bindL
  exact lv (i:=i) (List.nodup_cons.mp nd).2 (by simpa using h1) (by simpa using h2) hk
theorem lw {kindOf:Str→Option NameKind} {x:Str} {v:Value}:∀ {P:List Str} {vs:List Value} {i:Nat} {m:Str→Option Value},P.Nodup→P[i]?=some x→vs[i]?=some v→kindOf x≠some .local→
  bindC kindOf (P.zip vs) m x=some v
 | [],_,_,_,_,h,_,_=>by simp at h
 | _::_,[],_,_,_,_,h,_=>by simp at h
 | p::P,w::vs,0,m,nd,h1,h2,hk=>by
  simp at h1 h2;subst h1;subst h2
  show bindC kindOf ((p,w)::P.zip vs) m p=_
  unfold bindC
  rw [lu fun v hv=>(List.nodup_cons.mp nd).1 (List.of_mem_zip hv).1,if_neg hk]
  simp
 | p::P,w::vs,i+1,m,nd,h1,h2,hk=>by
  show bindC kindOf ((p,w)::P.zip vs) m x=_
  unfold bindC
  exact lw (i:=i) (List.nodup_cons.mp nd).2 (by simpa using h1) (by simpa using h2) hk
def start (N:List Str) (vs:List V):St:=vs.map some++List.replicate (N.length-vs.length) none
def jr (CX:CXT) (P:Program) (w:World) (K:PySem.W.Frag) (mg:Str→Option Value) (base:Heap) (N:List Str) (qual:Str) (scope:Scope) (f:Addr) (cd:Value) (A:Around) (outer:List Env) (s:Shared) (H:Hp) (E:XK):Cx where
 prog:=P
 w:=w
 K:=K
 mg:=mg
 base:=base
 A:=A.deeper (envOfC qual scope s.heap.objs.size f cd)
 N:=N
 s₀:=s
 H₀:=H
 env:=envOfC qual scope s.heap.objs.size f cd
 outer:=outer
 stack:=envOfC qual scope s.heap.objs.size f cd::outer
 ex:=[]
 calm:=true
 fn:=fun _=>true
 pn:=[]
 xe:=fun e s'=>wpAny (model P w) (A.deeper (envOfC qual scope s.heap.objs.size f cd)) (leaving (envOfC qual scope s.heap.objs.size f cd) e) (fun _ s''=>CX outer H s E e s'') (fun e' s''=>CX outer H s E e' s'') s'
theorem m9 {sc:Scope} {n:Nat} {x:Str} (h:sc.names.lookup x=some .cell):∃ c,(cellsFrom n sc.names []).lookup x=some c:=by
 have q:=PySem.W.cellsFrom_some sc.names n [] (.inl h)
 exact Option.isSome_iff_exists.mp q
theorem inv_start {CX:CXT} {P:Program} {w:World} {K:PySem.W.Frag} {mg:Str→Option Value} {base:Heap} {N ps:List Str} {qual:Str} {scope:Scope} {f:Addr} {cd:Value} {A:Around} {outer:List Env} {s s1:Shared} {H:Hp} {E:XK} {us:List Value} {vs:List V}
  (S:dN N ps scope) (hd:A.handled=none) (e0:Env0 P w K mg base A outer s H) (hl:vs.length=ps.length) (r:aF vs us)
  (x:InCallC s s.heap.objs.size (bindL (envOfC qual scope s.heap.objs.size f cd).kindOf (ps.zip us) fun _=>none) (cellsFrom (s.heap.objs.size+1) scope.names []) (bindC (envOfC qual scope s.heap.objs.size f cd).kindOf (ps.zip us) fun _=>none) s1) :
  Inv (jr CX P w K mg base N qual scope f cd A outer s H E) [] (start N vs) H s1:=by
 have hpl:ps.length≤N.length:=by have:=congrArg List.length S.pre;rw [List.length_take] at this;omega
 obtain ⟨h1,tk,rfl,hk⟩:=x.done
 have noA:∀ b:Addr,b∉(jr CX P w K mg base N qual scope f cd A outer s H E).ex:=fun b z=>absurd (show b∈([]:List Addr) from z) (by simp)
 refine ⟨⟨e0.mod,S.kind,rfl,rfl,Nat.le_refl _,fun y z c h1 h2=>?_,fun y hy=>?_,fun y c _ h=>?_,fun _=>hd,Around.frames_deeper e0.frames,.inr ⟨rfl,rfl⟩,fun b z=>absurd z (noA b),e0.bs,e0.bsz,fun b _ _=>noA b,fun b z=>absurd z (noA b),e0.funs,e0.frf⟩,
  rfl,e0.bare,Un.kept hk,⟨_,x.toInCall.ns,fun i y v h1 h2 h3=>?_⟩,fun y c h=>⟨_,x.cell y c h⟩,e0.hok.fresh (Nat.le_refl _),fun y c h=>?_,fun p hp=>absurd (show p∈([]:List (Addr×Obj)) from hp) (by simp),e0.hok.kept hk,?_⟩
 ·
  exact name_of_addr x.apart (PySem.mem_of_lookup h1) (PySem.mem_of_lookup h2)
 ·
  have hy:scope.names.lookup y=some .cell∨scope.names.lookup y=some .free:=hy
  rcases hy with hy | hy
  ·
   exact m9 hy
  ·
   exact absurd rfl (S.nofree _ (PySem.mem_of_lookup hy))
 ·
  exact Nat.le_of_lt (x.above y c (PySem.mem_of_lookup h))
 ·
  have hi:i<vs.length:=by
   unfold start at h2
   by_cases hi:i<vs.length
   ·
    exact hi
   ·
    rw [List.getElem?_append_right (by simpa using hi)] at h2
    rw [List.getElem?_replicate] at h2
    split at h2 <;> cases h2
  have ha:vs[i]?=some v:=by
   unfold start at h2
   rw [List.getElem?_append_left (by simpa using hi),List.getElem?_map] at h2
   cases e:vs[i]? with
   | none=>rw [e] at h2;cases h2
   | some a=>rw [e] at h2;cases h2;rfl
  obtain ⟨u,hu,rv⟩:=r.get ha
  have hp:ps[i]?=some y:=by
   rw [←S.pre,List.getElem?_take_of_lt (by omega)];exact h1
  have ndP:ps.Nodup:=by rw [←S.pre];exact S.nd.sublist (List.take_sublist _ _)
  refine ⟨u,rv,?_⟩
  rcases S.par y (List.mem_of_getElem? hp) with k | k
  ·
   exact .inl ⟨k,lv ndP hp hu k⟩
  ·
   obtain ⟨c,e⟩:=m9 (n:=s.heap.objs.size+1) k
   refine .inr ⟨.inl k,c,e,?_⟩
   have q:=x.cell y c e
   rw [lw ndP hp hu (by show scope.names.lookup y≠_;rw [k];decide)] at q
   exact q
 ·
  exact e0.hok.fresh (Nat.le_of_lt (x.above y c (PySem.mem_of_lookup h)))
 ·
  unfold start
  show _=N.length
  rw [List.length_append,List.length_map,List.length_replicate]
  omega
theorem fn_of {CX:CXT} {P:Program} {w:World} {K:PySem.W.Frag} {mg:Str→Option Value} {base:Heap} {k:Nat} {f:Addr} {name qual:Str} {params:Arguments} {body:List Stmt} {scope:Scope} {dV kV doc pm cdv ct oc:Value} {an od:Option Addr}
  {osl:Array (Option Value)} {N ps:List Str} {sp:Sp} (lk:K.lookup f=some ⟨oc,od,.func (PySem.W.fnOf name qual params body scope dV kV doc pm an cdv ct),osl⟩) (hcd:PySem.W.codeIn K cdv qual=true) (S:dN N ps scope)
  (len:∀ vs H Q E,sp vs H Q E→vs.length=ps.length)
  (hbody:∀ (A:Around) (outer:List Env) (s:Shared) (H:Hp) (vs:List V) (Q:VK) (E:XK),bq k (A.deeper (envOfC qual scope s.heap.objs.size f cdv))→sp vs H Q E→
   ∃ t,PSs (jr CX P w K mg base N qual scope f cdv A outer s H E) body t∧t { nx:=fun _ H'=>Q .non H',rt:=Q } (start N vs) H) :
  dM P w K mg base CX (k+1) f (PySem.W.fnOf name qual params body scope dV kV doc pm an cdv ct) ps sp:=by
 refine ⟨len,fun A outer s H args us vs Q E hr e0 hb r hsp=>?_⟩
 have hl:=len _ _ _ _ hsp
 have KX:K.In s.heap:=e0.mod.kin.keeps fun b o e=>(e0.bs b o e).1
 have lim:s.heap.NoLimit:=e0.mod.nolimit.keeps fun b o e=>(e0.bs b o e).1
 have hkind:∀ y∈ps.zip us,scope.names.lookup y.1=some .local∨(scope.names.lookup y.1=some .cell∧((cellsFrom (s.heap.objs.size+1) scope.names []).lookup y.1).isSome=true):=fun ⟨n,v⟩ hy=>by
  rcases S.par n (List.of_mem_zip hy).1 with q | q
  ·
   exact .inl q
  ·
   exact .inr ⟨q,PySem.W.cellsFrom_some _ _ _ (.inl q)⟩
 refine codeAny_call_function hr.depth (KX _ _ lk) rfl S.co S.gen rfl (PySem.W.codeRec_of KX hcd) (hb _ _ _ _ ?_)
 refine wpAny_newFunctionEnv_cells S.kind hkind fun env he s1 x=>?_
 subst he
 refine ⟨lim.keeps x.toInCall.keep,codeAny_func ?_⟩
 obtain ⟨t,ht,hq⟩:=hbody A outer s H vs Q E (hr.deeper _) hsp
 have I:Inv (jr CX P w K mg base N qual scope f cdv A outer s H E) [] (start N vs) H s1:=inv_start S hr.hd e0 hl r x
 refine wpAny_mono (ht [] s1 (start N vs) H _ I hq) (fun fl s' hs=>?_) fun e s' hs=>hs
 have fin:∀ {σ':St} {H':Hp} {v:V} {u:Value},Inv (jr CX P w K mg base N qual scope f cdv A outer s H E) [] σ' H' s'→RelV v u→Q v H'→CE outer P w H s Q u s':=
  fun {σ' H' v u} J rv q=>⟨v,H',J.os,J.bare,J.base,J.hok,rv,q⟩
 cases fl with
 | ret u=>
  obtain ⟨v,σ',H',J,rv,q⟩:=hs
  exact fin J rv q
 | next=>
  obtain ⟨σ',H',J,q⟩:=hs
  exact fin (v:=V.non) (u:=Value.none) J rfl q
 | brk=>
  obtain ⟨_,_,_,q⟩:=hs
  exact False.elim q
 | cont=>
  obtain ⟨_,_,_,q⟩:=hs
  exact False.elim q
end L2
namespace L2
open PySem PySem.Spec PyProof.Rows
section
variable {X:Cx} {x:Str} {p pos:Pos} {e:Expr} {es:List Expr} {t:TA} {id T:String} {r:List V→Hp→VK→Prop}
def tCB (r:List V→Hp→VK→Prop) (t:TA):TE:=fun σ H Q=>t σ H fun vs H1=>r vs H1 Q
theorem hG (hc:cN X (.builtin id) r) (hg:Gl X x) (hm:X.mg x=none) (hv:bootBuiltins x=some (.builtin id)) (ha:PA X (e::es) t) (hn:x≠"__name__":=by decide) (hdb:(x==("__debug__" : Str))=false:=by decide)
  (he:starEach (e::es) X.env=(false,eval e X.env)::starEach es X.env:=by rfl) (hpl:(backTo pos (starEach es X.env)).any (·.1)=false:=by rfl):PE X (.Call (.Name x p) (e::es) [] pos) (tCB r t):=by
 intro pins s σ H Q I h
 refine wpAny_Call_Name_kw (fT I hg hm hv ?_ hn hdb)
 exact PyProof.Rows.callWith_builtin1 (thn (ha pos pins s σ H _ I h) fun us s1 ⟨vs,H1,I1,r1,q1⟩=>hc pins s1 σ H1 vs us Q I1 r1 q1) he hpl
theorem iL (hc:cN X (.type T) r) (hg:Gl X x) (hm:X.mg x=none) (hv:bootBuiltins x=some (.type T)) (ha:PA X (e::es) t) (hn:x≠"__name__":=by decide) (hdb:(x==("__debug__" : Str))=false:=by decide)
  (he:starEach (e::es) X.env=(false,eval e X.env)::starEach es X.env:=by rfl) (hpl:(backTo pos (starEach es X.env)).any (·.1)=false:=by rfl):PE X (.Call (.Name x p) (e::es) [] pos) (tCB r t):=by
 intro pins s σ H Q I h
 refine wpAny_Call_Name_kw (fT I hg hm hv ?_ hn hdb)
 exact PyProof.Rows.callWith_type1 (thn (ha pos pins s σ H _ I h) fun us s1 ⟨vs,H1,I1,r1,q1⟩=>hc pins s1 σ H1 vs us Q I1 r1 q1) he hpl
end
end L2
namespace HT
open PySem PyProof.Rows
section
open PySem.SeqAt
open PySem.AutoSeq1 (wpAny_loadPart')
open PySem.MeetsSeq PySem.MeetsSeq2 PySem.MeetsSeq3
end
section
variable {prog:Program} {w:World} {A:Around} {E:Value→Shared→Prop} {s:Shared}
def sIx (n d:Nat):Option Int→Nat
 | none=>d
 | some v=>if v<0 then (v+(n:Int)).toNat else min v.toNat n
theorem sIx_le (n d:Nat) (hd:d≤n) (o:Option Int):sIx n d o≤n:=by
 cases o with
 | none=>exact hd
 | some v=>
  show (if v<0 then (v+(n:Int)).toNat else min v.toNat n)≤n
  by_cases hv:v<0
  ·
   rw [if_pos hv];omega
  ·
   rw [if_neg hv];exact Nat.min_le_right _ _
theorem clip_eq (v:Int) (n d:Nat):(if v<0 then max (v+(n:Int)) 0 else min v (n:Int))=((sIx n d (some v):Nat):Int):=by
 show (if v<0 then max (v+(n:Int)) 0 else min v (n:Int))=(((if v<0 then (v+(n:Int)).toNat else min v.toNat n):Nat):Int)
 by_cases hv:v<0
 ·
  simp only [if_pos hv];omega
 ·
  simp only [if_neg hv];omega
theorem oX (lo hi:Option Int) (n:Nat):Builtin.Slice.sliceAdjust lo hi 1 (n:Int)=(((sIx n 0 lo:Nat):Int),((sIx n n hi:Nat):Int)):=by
 have h1:¬((1:Int)<0):=by omega
 unfold Builtin.Slice.sliceAdjust
 simp only [h1,if_false]
 refine Prod.ext ?_ ?_
 ·
  cases lo with
  | none=>rfl
  | some v=>exact clip_eq v n 0
 ·
  cases hi with
  | none=>rfl
  | some v=>exact clip_eq v n n
theorem oY (i j:Nat):Builtin.Slice.slicePlaces (i:Int) (j:Int) 1=j-i:=by
 unfold Builtin.Slice.slicePlaces
 have h1:(1:Int)>0:=by omega
 simp only [h1,if_true,Int.ediv_one]
 split <;> omega
theorem kg {v:Value} {o:Option Int} {Q:Option Int→Shared→Prop} (p:IsPart v o) (h:Q o s):wpAny (model prog w) A (Builtin.Slice.slicePartIndex v) Q E s:=by
 cases p with
 | none=>exact slicePart_none h
 | int i t=>exact slicePart_int h
theorem iM {sl:Addr} {vl vu:Value} {lo hi:Option Int} {n:Nat} {Q:Int×Int×Nat→Shared→Prop} (hs:s.heap.IsSliceOf sl vl vu .none) (pl:IsPart vl lo) (pu:IsPart vu hi)
  (h:Q (((sIx n 0 lo:Nat):Int),1,sIx n n hi-sIx n 0 lo) s):wpAny (model prog w) A (Builtin.Slice.sliceApplied (.ref sl) (pure (n:Int))) Q E s:=by
 obtain ⟨os,hos,hcs,hds⟩:=id hs
 unfold Builtin.Slice.sliceApplied Builtin.Slice.sliceFields
 refine wpAny_bind (wpAny_bind (wpAny_field hos hds (x:=vl) rfl (wpAny_bind (wpAny_field hos hds (x:=vu) rfl (wpAny_bind (wpAny_field hos hds (x:=.none) rfl (wpAny_pure ?_)))))))
 refine wpAny_bind (slicePart_none ?_)
 show wpAny _ _ (if ((1:Int)==0)=true then _ else _) _ _ s
 rw [if_neg (by decide)]
 refine wpAny_bind (kg pl (wpAny_bind (kg pu (wpAny_bind (wpAny_pure ?_)))))
 show wpAny _ _ (match Builtin.Slice.sliceAdjust lo hi 1 (n:Int) with | (lo,hi)=>pure (lo,(1:Int),Builtin.Slice.slicePlaces lo hi 1)) _ _ s
 rw [oX lo hi n]
 show wpAny _ _ (pure (((sIx n 0 lo:Nat):Int),(1:Int),Builtin.Slice.slicePlaces ((sIx n 0 lo:Nat):Int) ((sIx n n hi:Nat):Int) 1)) _ _ s
 rw [oY]
 exact wpAny_pure h
theorem pick_gen (xs:Array Value) (i k:Nat):((List.range k).filterMap fun (m:Nat)=>xs[((i:Int)+(m:Int)*1).toNat]?).toArray=((xs.toList.drop i).take k).toArray:=by
 have e:(fun (m:Nat)=>xs[((i:Int)+(m:Int)*1).toNat]?)=fun m=>xs[i+m]?:=by
  funext m
  have:((i:Int)+(m:Int)*1).toNat=i+m:=by omega
  rw [this]
 rw [e]
 have:=pick_run xs i k
 rw [List.filterMap_map] at this
 have e2:((fun x=>xs[x]?)∘fun x=>i+x)=fun m=>xs[i+m]?:=rfl
 rw [e2] at this
 rw [this]
theorem getItem_tuple_cut {t sl:Addr} {items:Array Value} {vl vu:Value} {lo hi:Option Int} {Q:Value→Shared→Prop} (ht:IsTup s.heap t items) (hs:s.heap.IsSliceOf sl vl vu .none) (pl:IsPart vl lo) (pu:IsPart vu hi)
  (hw:¬(sIx items.size 0 lo=0∧sIx items.size items.size hi=items.size))
  (h:Q (.ref s.heap.objs.size) { s with heap:=s.heap.push { cls:=.type "tuple",data:=.seq ((items.toList.drop (sIx items.size 0 lo)).take (sIx items.size items.size hi-sIx items.size 0 lo)).toArray } })
  (hsz:items.size≤sizeLine):wpAny (model prog w) A (getItem (.ref t) (.ref sl)) Q E s:=by
 have htake:sizeOk (.seq ((items.toList.drop (sIx items.size 0 lo)).take (sIx items.size items.size hi-sIx items.size 0 lo)).toArray):=by
  show ((items.toList.drop (sIx items.size 0 lo)).take (sIx items.size items.size hi-sIx items.size 0 lo)).toArray.size≤sizeLine
  rw [List.size_toArray,List.length_take,List.length_drop,Array.length_toList]
  omega
 have hj:sIx items.size items.size hi≤items.size:=sIx_le _ _ (Nat.le_refl _) hi
 obtain ⟨os,hos,hcs,hds⟩:=id hs
 have hTs:s.TypeIs (.ref sl) "slice":=⟨os,hos,hcs⟩
 unfold getItem
 try with_reducible refine wpAny_holding ?_
 first | refine wpAny_bind (wpAny_pure ?_) | skip
 refine wpAny_bind (wpAny_sequenceKey ht.typeIs (by decide) ?_)
 refine wpAny_bind (wpAny_callSpecial?_slot (name:=Str.ofString "__getitem__") ht.typeIs PyProof.Rows.slot_tuple_getitem
  (wpAny_call_entry PyProof.Rows.slot_tuple_getitem ht.typeIs entry_tuple_getitem ?_ (args_tuple_getitem _ _)))
 show wpAny _ _ (Builtin.Tuple.tupleItemsOf (.ref t) >>= _) _ _ s
 refine wpAny_bind (tupleItemsOf_ ht ?_)
 refine wpAny_bind (wpAny_typeOf hTs ?_)
 rw [if_pos (by decide)]
 refine wpAny_bind (iM hs pl pu ?_)
 have hno:¬((((sIx items.size 0 lo:Nat):Int)==0&&(1:Int)==1&&(sIx items.size items.size hi-sIx items.size 0 lo)==items.size)=true):=by
  intro q
  rw [Bool.and_eq_true,Bool.and_eq_true] at q
  have q1:((sIx items.size 0 lo:Nat):Int)=0:=eq_of_beq q.1.1
  have q2:sIx items.size items.size hi-sIx items.size 0 lo=items.size:=eq_of_beq q.2
  exact hw ⟨by omega,by omega⟩
 show wpAny _ _ (if (((sIx items.size 0 lo:Nat):Int)==0&&(1:Int)==1&&(sIx items.size items.size hi-sIx items.size 0 lo)==items.size)=true then _ else _) _ _ s
 rw [if_neg hno,pick_gen]
 first
  | exact wpAny_bind (m:=Builtin.Tuple.tupleExact _) (wpAny_newObj_type (wpAny_pure ⟨_,rfl,wpAny_pure h⟩) htake)
  | exact wpAny_bind (m:=Builtin.Tuple.tupleExact _) (wpAny_newObj_type (wpAny_bind (wpAny_pure (wpAny_pure ⟨_,rfl,wpAny_pure h⟩))) htake)
  | exact wpAny_bind (wpAny_bind (m:=Builtin.Tuple.tupleExact _) (wpAny_newObj_type (wpAny_pure (wpAny_pure ⟨_,rfl,wpAny_pure h⟩)) htake))
  | exact wpAny_bind (wpAny_bind (m:=Builtin.Tuple.tupleExact _) (wpAny_newObj_type (wpAny_pure ⟨_,rfl,wpAny_pure h⟩) htake))
end
end HT
namespace L2
open PySem PySem.Spec PyProof.Rows
abbrev TO:=St→Hp→(Option Int→Hp→Prop)→Prop
def PO (X:Cx) (e:Option Expr) (t:TO):Prop:=
 ∀ (pins:List (Addr×Obj)) (s:Shared) (σ:St) (H:Hp) (Q:Option Int→Hp→Prop),Inv X pins σ H s→t σ H Q→
  wpAny (model X.prog X.w) X.A (evalPart e X.env) (fun u s'=>∃ o H',Inv X pins σ H' s'∧IsPart u o∧Q o H') X.xe s
def tNoPart:TO:=fun _ H Q=>Q none H
def tPart (t:TE):TO:=fun σ H Q=>t σ H fun x H1=>∃ i,x=.int i∧Q (some i) H1
section
variable {X:Cx} {e:Expr} {te:TE} {lo hi:Option Expr} {tl th:TO} {pos p2:Pos}
theorem po_none:PO X none tNoPart:=by
 intro pins s σ H Q I h
 rw [evalPart_none]
 exact wpAny_pure ⟨none,H,I,.none,h⟩
theorem po_some (h:PE X e te):PO X (some e) (tPart te):=by
 intro pins s σ H Q I hw
 rw [evalPart_some]
 refine thn (h pins s σ H _ I hw) fun u s1 ⟨x,H1,I1,r1,q1⟩=>?_
 obtain ⟨i,rfl,q⟩:=q1
 obtain ⟨t,rfl⟩:=r1
 exact ⟨some i,H1,I1,.int i t,q⟩
def SlR (X:Cx) (r:V→Option Int→Option Int→Hp→VK→Prop):Prop:=
 ∀ (pins:List (Addr×Obj)) (s:Shared) (σ:St) (H:Hp) (x:V) (v vl vu:Value) (lo hi:Option Int) (sl:Addr) (Q:VK),Inv X pins σ H s→RelV x v→s.heap.IsSliceOf sl vl vu .none→IsPart vl lo→IsPart vu hi→r x lo hi H Q→
  ∃ T id,typeLookup (.type T) "__getitem__" = pure (some (.builtin id))∧s.TypeIs v T∧wpAny (model X.prog X.w) X.A (getItem v (.ref sl)) (EP X pins σ Q) X.xe s
def tSl (r:V→Option Int→Option Int→Hp→VK→Prop) (te:TE) (tl th:TO):TE:=fun σ H Q=>te σ H fun x H1=>tl σ H1 fun l H2=>th σ H2 fun u H3=>r x l u H3 Q
theorem ng {r:V→Option Int→Option Int→Hp→VK→Prop} (hr:SlR X r) (he:PE X e te) (hl:PO X lo tl) (hu:PO X hi th):PE X (.Subscript e (.Slice lo hi none p2) pos) (tSl r te tl th):=by
 intro pins s σ H Q I h
 refine Subscript_ (thn (he pins s σ H _ I h) fun v s1 ⟨x,H1,I1,r1,q1⟩=>?_)
 refine wpAny_Slice (thn (hl pins s1 σ H1 _ I1 q1) fun vl s2 ⟨l,H2,I2,pl,q2⟩=>thn (hu pins s2 σ H2 _ I2 q2) fun vu s3 ⟨u,H3,I3,pu,q3⟩=>?_)
 rw [evalPart_none]
 refine wpAny_pure ?_
 have I4:Inv X pins σ H3 { s3 with heap:=s3.heap.push { cls:=.type "slice",data:=.fields #[vl,vu,.none] } }:=I3.kept (t':=s3.toks) fun b ob q=>Heap.get?_push_of_some _ q
 obtain ⟨T,id,hT,ht,hg⟩:=hr pins { s3 with heap:=s3.heap.push { cls:=.type "slice",data:=.fields #[vl,vu,.none] } } σ H3 x v vl vu l u s3.heap.objs.size Q I4 r1 (Heap.IsSliceOf.new ..) pl pu q3
 show wpAny (model X.prog X.w) X.A (subscriptTail e (.Slice lo hi none p2) v (.ref s3.heap.objs.size)) (EP X pins σ Q) X.xe { s3 with heap:=s3.heap.push { cls:=.type "slice",data:=.fields #[vl,vu,.none] } }
 exact tail_any (ops:=[.ref s3.heap.objs.size,v]) ht hT hg (by with_unfolding_all rfl)
def cutV (xs:List V) (lo hi:Option Int):List V:=(xs.drop (HT.sIx xs.length 0 lo)).take (HT.sIx xs.length xs.length hi-HT.sIx xs.length 0 lo)
theorem jb (xs:List V) (lo hi:Option Int):(cutV xs lo hi).length≤xs.length:=by
 unfold cutV
 rw [List.length_take,List.length_drop]
 omega
def rSlT (K:PySem.W.Frag):V→Option Int→Option Int→Hp→VK→Prop:=fun x lo hi H Q=>∃ a xs,x=.ref a∧SqT K H a xs∧
 ¬(HT.sIx xs.length 0 lo=0∧HT.sIx xs.length xs.length hi=xs.length)∧∀ p,H p=none→Q (.ref p) (upd H p (.tup (cutV xs lo hi)))
theorem sl_tup:SlR X (rSlT X.K):=by
 intro pins s σ H x v vl vu lo hi sl Q I rx hs pl pu h
 obtain ⟨a,xs,rfl,hx,hw,q⟩:=h
 cases rx
 obtain ⟨its,r,ht,hz⟩:=I.tuple hx
 have hlen:its.toArray.size=xs.length:=by rw [List.size_toArray];exact r.length.symm
 refine ⟨"tuple",_,PyProof.Rows.slot_tuple_getitem.lookup,ht.typeIs,?_⟩
 refine HT.getItem_tuple_cut ht hs pl pu (by rw [hlen];exact hw) ?_ (by rw [hlen];exact hz)
 rw [hlen]
 refine ⟨.ref s.heap.objs.size,_,I.laid (t':=s.toks) (o:=.tup (cutV xs lo hi)) (fun b ob q=>Heap.get?_push_of_some _ q) (Nat.le_refl _) ?_,rfl,q _ (I.hok.fresh (Nat.le_refl _))⟩
 exact ⟨Nat.le_trans (jb xs lo hi) hz,_,(r.drop (HT.sIx xs.length 0 lo)).take (HT.sIx xs.length xs.length hi-HT.sIx xs.length 0 lo),IsTup.new _ _⟩
end
end L2
namespace L2
open PySem PySem.Spec PyProof.Rows
def ixN (n:Nat) (i:Int):Option Nat:=if 0≤i then (if i<n then some i.toNat else none) else if -(n:Int)≤i then some (i+n).toNat else none
def atI {α:Type} (xs:List α) (i:Int):Option α:=(ixN xs.length i).bind fun j=>xs[j]?
theorem ixN_seq {n:Nat} {i:Int} {j:Nat} (h:ixN n i=some j):seqIndex? i n=some j∧j<n∧-(n:Int)≤i∧i<n:=by
 unfold ixN at h
 by_cases h0:0≤i
 ·
  rw [if_pos h0] at h
  by_cases h1:i<n
  ·
   rw [if_pos h1] at h
   have e:i.toNat=j:=Option.some.inj h
   exact ⟨by rw [seqIndex_of h0 h1,e],by omega,by omega,h1⟩
  ·
   rw [if_neg h1] at h;cases h
 ·
  rw [if_neg h0] at h
  by_cases h1:-(n:Int)≤i
  ·
   rw [if_pos h1] at h
   have e:(i+n).toNat=j:=Option.some.inj h
   exact ⟨by rw [seqIndex_neg (by omega) h1,e],by omega,h1,by omega⟩
  ·
   rw [if_neg h1] at h;cases h
theorem atI_get {α:Type} {xs:List α} {i:Int} {v:α} (h:atI xs i=some v):∃ j,seqIndex? i xs.length=some j∧xs[j]?=some v∧j<xs.length∧-(xs.length:Int)≤i∧i<xs.length:=by
 unfold atI at h
 cases e:ixN xs.length i with
 | none=>rw [e] at h;cases h
 | some j=>
  rw [e] at h
  obtain ⟨h1,h2,h3,h4⟩:=ixN_seq e
  exact ⟨j,h1,h,h2,h3,h4⟩
def jS (b:Expr):Prop:=∀ o i,subscripted b false o i=operate [o,i] (getItem o i)
def IxR (X:Cx) (r:R2):Prop:=
 ∀ (value slice:Expr) (pins:List (Addr×Obj)) (s:Shared) (σ:St) (H:Hp) (x y:V) (v u:Value) (Q:VK),Inv X pins σ H s→RelV x v→RelV y u→r x y H Q→
  subscripted slice false v u=operate [v,u] (getItem v u)→wpAny (model X.prog X.w) X.A (subscriptTail value slice v u) (EP X pins σ Q) X.xe s
def MtR (X:Cx) (id:String) (r:V→List V→Hp→VK→Prop):Prop:=
 ∀ (pins:List (Addr×Obj)) (s:Shared) (σ:St) (H:Hp) (x:V) (xs:List V) (v:Value) (us:List Value) (Q:VK),Inv X pins σ H s→RelV x v→aF xs us→r x xs H Q→
  wpAny (model X.prog X.w) X.A (call (.builtin id) (v::us)) (EP X pins σ Q) X.xe s
section
variable {X:Cx} {a b:Expr} {ta tb:TE} {pos:Pos}
theorem pe_ix {r:R2} (hr:IxR X r) (ha:PE X a ta) (hb:PE X b tb) (hs:jS b):PE X (.Subscript a b pos) (tOp r ta tb):=by
 intro pins s σ H Q I h
 exact Subscript_ (binT ha hb I h fun v u s2 x y H2 I2 rx ry q=>hr a b pins s2 σ H2 x y v u Q I2 rx ry q (hs _ _))
def rIxL (K:PySem.W.Frag):R2:=fun x y H Q=>∃ p xs i v,x=.ref p∧y=.int i∧SqL K H p xs∧atI xs i=some v∧Q v H
def rIxT (K:PySem.W.Frag):R2:=fun x y H Q=>∃ p xs i v,x=.ref p∧y=.int i∧SqT K H p xs∧atI xs i=some v∧Q v H
theorem ix_list:IxR X (rIxL X.K):=by
 intro value slice pins s σ H x y v u Q I rx ry h hs
 obtain ⟨p,xs,i,z,rfl,rfl,hq,he,q⟩:=h
 cases rx
 obtain ⟨t,rfl⟩:=ry
 obtain ⟨its,r,pl,hz⟩:=I.list hq
 obtain ⟨j,h1,h2,h3,h4,h5⟩:=atI_get he
 obtain ⟨w,ew,rw'⟩:=r.get h2
 have hl:=r.length
 have hn:=kf
 have fin:EP X pins σ Q w s:=⟨z,H,I,rw',q⟩
 by_cases h0:0≤i
 ·
  have hj:i.toNat=j:=by
   rw [seqIndex_of h0 h5] at h1
   exact Option.some.inj h1
  exact item_listR pl.isList h0 (by omega) (by rw [hj];simpa using ew) fin hs
 ·
  have hj:(i+(its.toArray.size:Int)).toNat=j:=by
   rw [seqIndex_neg (by omega) h4] at h1
   rw [List.size_toArray,←hl]
   exact Option.some.inj h1
  exact subscriptTail_builtinR (x:=w) pl.isList.typeIs slot_list_getitem.lookup
   (wpAny_getItem_list_neg (Q:=fun r s'=>r=w∧EP X pins σ Q r s') pl.isList (by omega) (by rw [List.size_toArray] <;> omega) (by omega) (by rw [hj];simpa using ew) ⟨rfl,fin⟩) hs
theorem ix_tup:IxR X (rIxT X.K):=by
 intro value slice pins s σ H x y v u Q I rx ry h hs
 obtain ⟨p,xs,i,z,rfl,rfl,hq,he,q⟩:=h
 cases rx
 obtain ⟨t,rfl⟩:=ry
 obtain ⟨its,r,pl,hz⟩:=I.tuple hq
 obtain ⟨j,h1,h2,h3,h4,h5⟩:=atI_get he
 obtain ⟨w,ew,rw'⟩:=r.get h2
 have hl:=r.length
 have hn:=kf
 have fin:EP X pins σ Q w s:=⟨z,H,I,rw',q⟩
 exact subscriptTail_builtinR (x:=w) pl.typeIs slot_tuple_getitem.lookup
  (getItem_tuple (j:=j) (Q:=fun r s'=>r=w∧EP X pins σ Q r s') pl (by omega) (by omega) (by rw [List.size_toArray,←hl];exact h1) (by simpa using ew) ⟨rfl,fin⟩) hs
theorem oZ (its:List Value) (n j:Nat) (u:Value):Obj.mapSeq (·.setIfInBounds j u) { cls:=.type "list",data:=.seq its.toArray n }={ cls:=.type "list",data:=.seq (its.set j u).toArray n }:=by
 simp [Obj.mapSeq]
theorem Inv.lst {pins:List (Addr×Obj)} {σ:St} {H:Hp} {s:Shared} {p:Addr} {xs:List V} (I:Inv X pins σ H s) (h:H p=some (.lst xs)) :
  ∃ (its:List Value) (n:Nat),aF xs its∧s.heap.get? p=some { cls:=.type "list",data:=.seq its.toArray n }∧xs.length≤sizeLine:=by
 obtain ⟨z,its,n,r,e⟩:=I.hok p _ h
 exact ⟨its,n,r,e,z⟩
theorem Inv.lstUpd {pins:List (Addr×Obj)} {σ:St} {H:Hp} {s:Shared} {p:Addr} {xs ys:List V} {its its':List Value} {n n':Nat} {f:Obj→Obj} (I:Inv X pins σ H s) (h:H p=some (.lst xs))
  (ho:s.heap.get? p=some { cls:=.type "list",data:=.seq its.toArray n }) (hf:f { cls:=.type "list",data:=.seq its.toArray n }={ cls:=.type "list",data:=.seq its'.toArray n' }) (r:aF ys its') (hz:ys.length≤sizeLine) (t:Nat) :
  Inv X pins σ (upd H p (.lst ys)) { s with heap:=s.heap.update p f,toks:=t }:=by
 have e:(s.heap.update p f).get? p=some { cls:=.type "list",data:=.seq its'.toArray n' }:=by
  rw [Heap.get?_update_self f ho (by rw [hf] <;> rfl),hf]
 refine I.write (x:=p) (e:=p) (by rw [h];trivial) (.inl rfl) (fun b u hb q=>(Heap.get?_update_other _ _ (Ne.symm hb)).trans q) ⟨_,e⟩ ?_
 exact ⟨hz,its',n',r,e⟩
def rSetL:V→V→V→Hp→(Hp→Prop)→Prop:=fun o i v H Q=>∃ p xs k j,o=.ref p∧i=.int k∧H p=some (.lst xs)∧ixN xs.length k=some j∧Q (upd H p (.lst (xs.set j v)))
theorem set_list:PSet X rSetL:=by
 intro pins s σ H o i v ov iv u Q I ro ri rv h
 obtain ⟨p,xs,k,j,rfl,rfl,hp,hj,q⟩:=h
 cases ro
 obtain ⟨t,rfl⟩:=ri
 obtain ⟨its,n,r,ho,hz⟩:=I.lst hp
 obtain ⟨h1,h2,h3,h4⟩:=ixN_seq hj
 have hl:=r.length
 have hn:=kf
 have I':Inv X pins σ (upd H p (.lst (xs.set j v))) { s with heap:=s.heap.update p (Obj.mapSeq (·.setIfInBounds j u)) }:=
  I.lstUpd hp ho (oZ its n j u) (r.set rv j) (by rw [List.length_set];exact hz) s.toks
 by_cases h0:0≤k
 ·
  have hk:k.toNat=j:=by
   rw [seqIndex_of h0 h4] at h1
   exact Option.some.inj h1
  exact PySem.W.ki_setAt ho h0 (by omega) (by rw [List.size_toArray,←hl];exact h4) (by rw [hk];exact ⟨_,I',q⟩)
 ·
  have hk:(k+(its.toArray.size:Int)).toNat=j:=by
   rw [seqIndex_neg (by omega) h3] at h1
   rw [List.size_toArray,←hl]
   exact Option.some.inj h1
  exact PySem.W.ki_setBack ho (by omega) (by rw [List.size_toArray,←hl];exact h3) (by omega) (by rw [hk];exact ⟨_,I',q⟩)
theorem ma (lo hi:Option Int) (n:Nat):(sliceBounds lo hi none n).1=((HT.sIx n 0 lo:Nat):Int)∧(sliceBounds lo hi none n).2.1=((HT.sIx n n hi:Nat):Int)∧(sliceBounds lo hi none n).2.2=1:=by
 refine ⟨?_,?_,rfl⟩
 ·
  cases lo with
  | none=>simp [sliceBounds,HT.sIx]
  | some i=>
   simp only [sliceBounds,HT.sIx,Option.getD_none,show (1:Int)>0 by decide,if_true]
   by_cases h:i<0
   ·
    simp only [h,if_true] <;> omega
   ·
    simp only [h,if_false] <;> omega
 ·
  cases hi with
  | none=>simp [sliceBounds,HT.sIx]
  | some i=>
   simp only [sliceBounds,HT.sIx,Option.getD_none,show (1:Int)>0 by decide,if_true]
   by_cases h:i<0
   ·
    simp only [h,if_true] <;> omega
   ·
    simp only [h,if_false] <;> omega
theorem lg (its:List Value) (lo hi:Option Int):slicePick its.toArray lo hi none=((its.drop (HT.sIx its.length 0 lo)).take (HT.sIx its.length its.length hi-HT.sIx its.length 0 lo)).toArray:=by
 obtain ⟨h1,h2,h3⟩:=ma lo hi its.toArray.size
 unfold slicePick
 rw [h1,h2,h3]
 simp only [sliceRange_one,pick_run,List.size_toArray] <;> rfl
def rSlL (K:PySem.W.Frag):V→Option Int→Option Int→Hp→VK→Prop:=fun x lo hi H Q=>∃ a xs,x=.ref a∧SqL K H a xs∧∀ p,H p=none→Q (.ref p) (upd H p (.lst (cutV xs lo hi)))
theorem sl_list:SlR X (rSlL X.K):=by
 intro pins s σ H x v vl vu lo hi sl Q I rx hs pl pu h
 obtain ⟨a,xs,rfl,hx,q⟩:=h
 cases rx
 obtain ⟨its,r,ht,hz⟩:=I.list hx
 have hlen:=r.length
 refine ⟨"list",_,slot_list_getitem.lookup,ht.isList.typeIs,?_⟩
 refine wpAny_getItem_list_slice ht.isList hs pl pu .none (by simp) ?_ (by rw [List.size_toArray] <;> omega)
 rw [lg,←hlen]
 refine ⟨.ref s.heap.objs.size,_,I.laid (t':=s.toks) (o:=.lst (cutV xs lo hi)) (fun b ob q=>Heap.get?_push_of_some _ q) (Nat.le_refl _) ?_,rfl,q _ (I.hok.fresh (Nat.le_refl _))⟩
 exact ⟨Nat.le_trans (jb xs lo hi) hz,_,0,(r.drop (HT.sIx xs.length 0 lo)).take (HT.sIx xs.length xs.length hi-HT.sIx xs.length 0 lo),Heap.get?_push_size _ rfl⟩
theorem e7:cN X (.builtin "len") (fun xs H Q=>∃ p ys,xs=[.ref p]∧(SqL X.K H p ys∨SqT X.K H p ys)∧Q (.int ys.length) H):=by
 intro pins s σ H xs us Q I r h
 obtain ⟨p,ys,rfl,hq,q⟩:=h
 obtain ⟨u,rfl,rx⟩:=vals1 r
 cases rx
 have hn:=kf
 rcases hq with hq | hq
 ·
  obtain ⟨its,r',pl,hz⟩:=I.list hq
  have hlen:=r'.length
  exact Calls.call_len_list pl.isList (by simp only [List.size_toArray] <;> omega) ⟨.int ys.length,H,I.tok _,⟨s.toks+1,by rw [List.size_toArray,hlen]⟩,q⟩
 ·
  obtain ⟨its,r',pl,hz⟩:=I.tuple hq
  have hlen:=r'.length
  exact len_tuple pl (by simp only [List.size_toArray] <;> omega) ⟨.int ys.length,H,I.tok _,⟨s.toks+1,by rw [List.size_toArray,hlen]⟩,q⟩
theorem md:cN X (.builtin "len") (fun xs H Q=>∃ z,xs=[.str z]∧z.length≤sizeLine∧Q (.int z.length) H):=by
 intro pins s σ H xs us Q I r h
 obtain ⟨z,rfl,hz,q⟩:=h
 obtain ⟨u,rfl,t,rfl⟩:=vals1 r
 have hn:=kf
 exact len_str (by omega) ⟨.int z.length,H,I.tok _,⟨_,rfl⟩,q⟩
theorem hJ:cN X (.type "list") (fun xs H Q=>∃ p ys,xs=[.ref p]∧(SqL X.K H p ys∨SqT X.K H p ys)∧∀ l,H l=none→Q (.ref l) (upd H l (.lst ys))):=by
 intro pins s σ H xs us Q I r h
 obtain ⟨p,ys,rfl,hq,q⟩:=h
 obtain ⟨u,rfl,rx⟩:=vals1 r
 cases rx
 have fin:∀ (its:List Value),aF ys its→ys.length≤sizeLine→∀ (h':Heap) (c':Nat),(∀ b o',s.heap.get? b=some o'→h'.get? b=some o')→
   h'.get? s.heap.objs.size=some { cls:=.type "list",dict:=none,data:=.seq its.toArray c',slots:=#[] }→EP X pins σ Q (.ref s.heap.objs.size) { s with heap:=h' }:=fun its r' hz h' c' kp e=>
  ⟨.ref s.heap.objs.size,_,I.laid (t':=s.toks) kp (Nat.le_refl _) (show cp X.prog X.w _ h' _ (.lst ys) from ⟨hz,its,c',r',e⟩),rfl,q _ (I.hok.fresh (Nat.le_refl _))⟩
 rcases hq with hq | hq
 ·
  obtain ⟨its,r',pl,hz⟩:=I.list hq
  have hlen:=r'.length
  obtain ⟨o,ho,hc,n,hd⟩:=pl.isList
  exact call_list_seq p (.inl rfl) ho hc hd (fun h' c' kp e=>fin its r' hz h' c' kp e) (by simp only [List.size_toArray] <;> omega)
 ·
  obtain ⟨its,r',pl,hz⟩:=I.tuple hq
  have hlen:=r'.length
  obtain ⟨o,ho,hc,n,hd⟩:=pl
  exact call_list_seq p (.inr rfl) ho hc hd (fun h' c' kp e=>fin its r' hz h' c' kp e) (by simp only [List.size_toArray] <;> omega)
def tyV (K:PySem.W.Frag) (T:String) (x:V) (H:Hp):Prop:=match x with
 | .str _=>T = "str"
 | .int _=>T = "int"
 | .ref p=>(T = "list"∧∃ xs,SqL K H p xs)∨(T = "tuple"∧∃ o,K.lookup p=some o∧o.cls=.type "tuple"∧o.dict=none)∨
  (T = "dict"∧((∃ kvs,H p=some (.dK kvs))∨∃ kvs,H p=some (.dT kvs)))∨(T = "set"∧∃ S n,H p=some (.set S n))
 | _=>False
theorem tyV_is {pins:List (Addr×Obj)} {σ:St} {H:Hp} {s:Shared} {T:String} {x:V} {v:Value} (I:Inv X pins σ H s) (r:RelV x v) (ty:tyV X.K T x H) :
  s.TypeIs v T∧∀ a,v=.ref a→∃ ob,s.heap.get? a=some ob∧ob.dict=none:=by
 cases x with
 | str z=>
  obtain ⟨t,rfl⟩:=r
  cases (show T = "str" from ty)
  exact ⟨typeIs_str s z t,fun _ e=>nomatch e⟩
 | int i=>
  obtain ⟨t,rfl⟩:=r
  cases (show T = "int" from ty)
  exact ⟨typeIs_int s i t,fun _ e=>nomatch e⟩
 | ref p=>
  cases r
  rcases ty with ⟨rfl,xs,hq⟩ | ⟨rfl,o,hk,hc,hd⟩ | ⟨rfl,hk⟩ | ⟨rfl,S,n,hk⟩
  ·
   obtain ⟨its,_,pl,_⟩:=I.list hq
   refine ⟨pl.isList.typeIs,fun a e=>?_⟩
   cases e
   obtain ⟨o,n,e,c,hd,_⟩:=pl
   exact ⟨o,e,hd⟩
  ·
   refine ⟨⟨o,I.kIn p o hk,hc⟩,fun a e=>?_⟩
   cases e
   exact ⟨o,I.kIn _ o hk,hd⟩
  ·
   have z:∃ o,s.heap.get? p=some o∧o.ExactDict:=by
    rcases hk with ⟨kvs,hk⟩ | ⟨kvs,hk⟩
    ·
     obtain ⟨_,_,_,_,o,_,_,e,ex,_⟩:=I.hok p _ hk
     exact ⟨o,e,ex⟩
    ·
     obtain ⟨_,_,_,_,o,_,_,e,ex,_⟩:=I.hok p _ hk
     exact ⟨o,e,ex⟩
   obtain ⟨o,e,ex⟩:=z
   refine ⟨⟨o,e,ex.1⟩,fun a e2=>?_⟩
   cases e2
   exact ⟨o,e,ex.2.1⟩
  ·
   obtain ⟨o,_,_,_,e,ex,_⟩:=I.hok p _ hk
   refine ⟨⟨o,e,ex.1⟩,fun a e2=>?_⟩
   cases e2
   exact ⟨o,e,ex.2.1⟩
 | _=>exact False.elim ty
def tBM0 (K:PySem.W.Frag) (T:String) (r:V→List V→Hp→VK→Prop) (to:TE):TE:=fun σ H Q=>to σ H fun x H1=>tyV K T x H1∧r x [] H1 Q
def tBM (K:PySem.W.Frag) (T:String) (r:V→List V→Hp→VK→Prop) (to:TE) (t:TA):TE:=fun σ H Q=>to σ H fun x H1=>tyV K T x H1∧t σ H1 fun xs H2=>r x xs H2 Q
variable {o e:Expr} {es:List Expr} {to:TE} {t:TA} {name:Str} {apos cpos:Pos} {T id:String} {r:V→List V→Hp→VK→Prop}
theorem pe_bm0 (pa:PlainAttrs T) (slot:Slot T name id) (hty:typeOf (.builtin id)=pure (.type "method_descriptor")) (hm:MtR X id r) (ho:PE X o to)
  (hbase:attributeBase o name X.env (eval o X.env)=eval o X.env:=by rfl) (hline:(apos.endLine==cpos.line)=true:=by rfl):PE X (.Call (.Attribute o name apos) [] [] cpos) (tBM0 X.K T r to):=by
 intro pins s σ H Q I h
 refine wpAny_Call_method0_late hbase hline (thn (ho pins s σ H _ I h) fun v s1 ⟨x,H1,I1,r1,ty,q1⟩=>?_)
 obtain ⟨h1,h2⟩:=tyV_is I1 r1 ty
 exact ⟨T,id,pa,slot,hty,h1,h2,Calls.callWith_builtin rfl (PySem.evalArgs_none (hm pins s1 σ H1 x [] v [] Q I1 r1 .nil q1))⟩
theorem pe_bm (pa:PlainAttrs T) (slot:Slot T name id) (hty:typeOf (.builtin id)=pure (.type "method_descriptor")) (hm:MtR X id r) (ho:PE X o to) (ha:PA X (e::es) t)
  (hbase:attributeBase o name X.env (eval o X.env)=eval o X.env:=by rfl)
  (hfew:((backTo cpos (starEach (e::es) X.env)).all (fun x=>!x.1)&&(backToKw cpos (keywordEach [] X.env)).all (fun x=>x.1.isSome)
   &&decide ((e::es).length+([]:List Keyword).length+(if ([]:List Keyword).isEmpty then 0 else 1)<30))=true:=by rfl)
  (hline:(apos.endLine==cpos.line)=true:=by rfl) (hs:starEach (e::es) X.env=(false,eval e X.env)::starEach es X.env:=by rfl) (hplain:(backTo cpos (starEach es X.env)).any (·.1)=false:=by rfl) :
  PE X (.Call (.Attribute o name apos) (e::es) [] cpos) (tBM X.K T r to t):=by
 intro pins s σ H Q I h
 refine wpAny_Call_method_late hbase hfew hline rfl (thn (ho pins s σ H _ I h) fun v s1 ⟨x,H1,I1,r1,ty,q1⟩=>?_)
 obtain ⟨h1,h2⟩:=tyV_is I1 r1 ty
 refine ⟨T,id,pa,slot,hty,h1,h2,?_⟩
 have hA:=ha cpos pins s1 σ H1 _ I1 q1
 rw [hs] at hA ⊢
 refine Calls.callWith_builtin (by show (false||(backTo cpos (starEach es X.env)).any (·.1))=false;rw [hplain] <;> rfl) (Calls.evalArgs_plain ?_)
 exact thn hA fun us s2 ⟨vs,H2,I2,r2,q2⟩=>hm pins s2 σ H2 x vs v us Q I2 r1 r2 q2
end
end L2
namespace L2
open PySem PySem.Spec PyProof.Rows
def MtM (X:Cx) (id:String) (r:V→List V→Hp→VK→Prop):Prop:=
 ∀ (pins:List (Addr×Obj)) (s:Shared) (σ:St) (H:Hp) (x:V) (xs:List V) (v:Value) (us:List Value) (Q:VK),Inv X pins σ H s→RelV x v→aF xs us→r x xs H Q→
  wpAny (model X.prog X.w) X.A (call (.builtin id) (v::us)) (EP X pins σ Q) X.xe s
theorem aF.one:∀ {x:V} {us:List Value},aF [x] us→∃ u,us=[u]∧RelV x u
 | _,_,.cons r .nil=>⟨_,rfl,r⟩
theorem aF.two:∀ {x y:V} {us:List Value},aF [x,y] us→∃ u v,us=[u,v]∧RelV x u∧RelV y v
 | _,_,_,.cons r (.cons q .nil)=>⟨_,_,rfl,r,q⟩
theorem aF.zero:∀ {us:List Value},aF [] us→us=[]
 | _,.nil=>rfl
theorem aF.dropLast {xs:List V} {us:List Value} (h:aF xs us):aF xs.dropLast us.dropLast:=by
 induction h with
 | nil=>exact .nil
 | cons r t ih=>
  cases t with
  | nil=>exact .nil
  | cons q t'=>exact .cons r ih
theorem aF.reverse {xs:List V} {us:List Value} (h:aF xs us):aF xs.reverse us.reverse:=by
 induction h with
 | nil=>exact .nil
 | cons r t ih=>rw [List.reverse_cons,List.reverse_cons];exact aF.append ih (.cons r .nil)
theorem aF.rep {xs:List V} {us:List Value} (h:aF xs us):∀ k:Nat,aF (List.replicate k xs).flatten (List.replicate k us).flatten
 | 0=>.nil
 | k+1=>by
  rw [List.replicate_succ,List.replicate_succ,List.flatten_cons,List.flatten_cons]
  exact aF.append h (aF.rep h k)
theorem o0 {α:Type} (l:List α):l.eraseIdx (l.length-1)=l.dropLast:=by
 induction l with
 | nil=>rfl
 | cons a r ih=>
  cases r with
  | nil=>rfl
  | cons b r=>
   have e:(a::b::r).length-1=((b::r).length-1)+1:=by
    have h1:(a::b::r).length=r.length+2:=rfl
    have h2:(b::r).length=r.length+1:=rfl
    omega
   rw [e,List.eraseIdx_cons_succ,ih]
   all_goals rfl
theorem foldl_rep (its:List Value):∀ (k:Nat) (acc:List Value),
  List.foldl (fun x1 x2=>x1++x2) acc.toArray (List.replicate k its.toArray)=(acc++(List.replicate k its).flatten).toArray
 | 0,acc=>by simp
 | k+1,acc=>by
  have e:acc.toArray++its.toArray=(acc++its).toArray:=by simp
  have e2:(acc++its)++(List.replicate k its).flatten=acc++(List.replicate (k+1) its).flatten:=by
   rw [List.replicate_succ,List.flatten_cons,List.append_assoc]
  rw [←e2,←foldl_rep its k (acc++its),←e,List.replicate_succ,List.foldl_cons]
section
variable {X:Cx} {pins:List (Addr×Obj)} {σ:St} {H:Hp} {s:Shared} {l b:Addr} {xs ys zs:List V}
theorem Inv.lset {its its':List Value} {n:Nat} {f:Array Value→Array Value} {t':Nat} (I:Inv X pins σ H s) (hH:H l=some (.lst xs))
  (e:s.heap.get? l=some { cls:=.type "list",data:=.seq its.toArray n }) (hf:f its.toArray=its'.toArray) (hv:aF ys its') (hz:ys.length≤sizeLine) :
  Inv X pins σ (upd H l (.lst ys)) { s with heap:=s.heap.update l (Obj.mapSeq f),toks:=t' }:=by
 have q:=PySem.IsL.update e f
 rw [hf] at q
 refine I.write (x:=l) (e:=l) (by rw [hH];exact trivial) (.inl rfl) (fun b' u hb hu=>(Heap.get?_update_other s.heap (Obj.mapSeq f) (Ne.symm hb)).trans hu) ⟨_,q⟩ ?_
 exact ⟨hz,its',_,hv,q⟩
theorem Inv.lnew {its:List Value} {t':Nat} (I:Inv X pins σ H s) (hv:aF ys its) (hz:ys.length≤sizeLine) :
  Inv X pins σ (upd H s.heap.objs.size (.lst ys)) { s with heap:=s.heap.push { cls:=.type "list",data:=.seq its.toArray },toks:=t' }:=
 I.laid (fun _ _ q=>Heap.get?_push_of_some _ q) (Nat.le_refl _) ⟨hz,its,0,hv,Heap.get?_push_size _ rfl⟩
theorem Inv.fresh (I:Inv X pins σ H s):H s.heap.objs.size=none:=I.hok.fresh (Nat.le_refl _)
theorem Inv.lstM (I:Inv X pins σ H s) (hH:H l=some (.lst xs)):xs.length≤sizeLine∧∃ (its:List Value) (n:Nat),aF xs its∧xs.length=its.length∧s.heap.get? l=some { cls:=.type "list",data:=.seq its.toArray n }:=by
 obtain ⟨z,its,n,r,e⟩:=I.hok l _ hH
 exact ⟨z,its,n,r,r.length,e⟩
theorem nh {n:Nat} (h:n≤sizeLine):Builtin.List.listTooLong n=false:=by
 unfold Builtin.List.listTooLong
 exact decide_eq_false (by omega)
end
section
variable {X:Cx}
def rAppend:V→List V→Hp→VK→Prop:=fun x vs H Q=>∃ l xs y,x=.ref l∧vs=[y]∧H l=some (.lst xs)∧xs.length<sizeLine∧Q .non (upd H l (.lst (xs++[y])))
theorem lA:MtM X "list.append" rAppend:=by
 intro pins s σ H x vs v us Q I rx rv h
 obtain ⟨l,xs,y,rfl,rfl,hH,hz,q⟩:=h
 cases rx
 obtain ⟨u,rfl,ru⟩:=rv.one
 obtain ⟨z,its,n,r,hl,e⟩:=I.lstM hH
 refine call_meets F.slot_list_append ⟨_,e,rfl⟩ F.entry_list_append (F.args_list_append_2 _ _) (PySem.list_append l its.toArray n u (by rw [List.size_toArray];omega)) ⟨e,?_⟩
 refine ⟨.non,_,I.lset (its':=its++[u]) hH e (by simp) (r.append (.cons ru .nil)) ?_,rfl,q⟩
 rw [List.length_append,List.length_singleton]
 omega
def rExtend:V→List V→Hp→VK→Prop:=fun x vs H Q=>∃ l b xs zs,x=.ref l∧vs=[.ref b]∧H l=some (.lst xs)∧H b=some (.lst zs)∧xs.length+zs.length≤sizeLine∧Q .non (upd H l (.lst (xs++zs)))
theorem mt_extend:MtM X "list.extend" rExtend:=by
 intro pins s σ H x vs v us Q I rx rv h
 obtain ⟨l,b,xs,zs,rfl,rfl,hH,hB,hz,q⟩:=h
 cases rx
 obtain ⟨u,rfl,ru⟩:=rv.one
 cases ru
 obtain ⟨z,its,n,r,hl,e⟩:=I.lstM hH
 obtain ⟨z2,its2,n2,r2,hl2,e2⟩:=I.lstM hB
 have hsz:its.toArray.size+its2.toArray.size≤sizeLine:=by rw [List.size_toArray,List.size_toArray];omega
 have hlong:¬(!its.toArray.isEmpty&&Builtin.List.listTooLong (its.toArray.size+its2.toArray.size))=true:=by
  rw [nh hsz,Bool.and_false]
  exact Bool.false_ne_true
 refine call_meets F.slot_list_extend ⟨_,e,rfl⟩ F.entry_list_extend (F.args_list_extend_2 _ _)
  (AutoSeq1.list_extend_list_list_0 l its.toArray n b its2.toArray n2 hlong (by rw [List.size_toArray];omega) (by omega)) ⟨e,e2,?_⟩
 refine ⟨.non,_,I.lset (its':=its++its2) hH e (by simp) (r.append r2) ?_,rfl,q⟩
 rw [List.length_append]
 omega
def rPop:V→List V→Hp→VK→Prop:=fun x vs H Q=>∃ l xs y,x=.ref l∧vs=[]∧H l=some (.lst xs)∧xs[xs.length-1]?=some y∧Q y (upd H l (.lst xs.dropLast))
theorem mt_pop:MtM X "list.pop" rPop:=by
 intro pins s σ H x vs v us Q I rx rv h
 obtain ⟨l,xs,y,rfl,rfl,hH,hy,q⟩:=h
 cases rx
 have hus:=rv.zero
 subst hus
 obtain ⟨z,its,n,r,hl,e⟩:=I.lstM hH
 obtain ⟨u,hu,ru⟩:=r.get hy
 have hy':its.toArray[its.toArray.size-1]?=some u:=by
  show its.toArray[its.length-1]?=some u
  rw [←Array.getElem?_toList,←hl]
  exact hu
 refine call_meets F.slot_list_pop ⟨_,e,rfl⟩ F.entry_list_pop (F.args_list_pop_1 _) (MeetsSeq.list_pop_last l its.toArray n u hy' (by rw [List.size_toArray];omega)) ⟨e,?_⟩
 refine ⟨y,_,I.lset (its':=its.dropLast) hH e ?_ r.dropLast ?_,ru,q⟩
 ·
  show its.toArray.eraseIdxIfInBounds (its.toArray.size-1)=its.dropLast.toArray
  rw [List.size_toArray,List.eraseIdxIfInBounds_toArray,o0]
 ·
  rw [List.length_dropLast]
  omega
def rClear:V→List V→Hp→VK→Prop:=fun x vs H Q=>∃ l xs,x=.ref l∧vs=[]∧H l=some (.lst xs)∧Q .non (upd H l (.lst []))
theorem mt_clear:MtM X "list.clear" rClear:=by
 intro pins s σ H x vs v us Q I rx rv h
 obtain ⟨l,xs,rfl,rfl,hH,q⟩:=h
 cases rx
 have hus:=rv.zero
 subst hus
 obtain ⟨z,its,n,r,hl,e⟩:=I.lstM hH
 refine call_meets F.slot_list_clear ⟨_,e,rfl⟩ F.entry_list_clear (F.args_list_clear_1 _) (AutoSeq1.list_clear_list_0 l its.toArray n (by rw [List.size_toArray];omega)) ⟨e,?_⟩
 exact ⟨.non,_,I.lset (its':=[]) (ys:=[]) hH e rfl .nil (Nat.zero_le _),rfl,q⟩
def rCat:R2:=fun x y H Q=>∃ l b xs zs,x=.ref l∧y=.ref b∧H l=some (.lst xs)∧H b=some (.lst zs)∧xs.length+zs.length≤sizeLine∧∀ p,H p=none→Q (.ref p) (upd H p (.lst (xs++zs)))
theorem op_cat:OpR X (binaryOp .Add) rCat:=by
 intro pins s σ H x y v u Q I rx ry h
 obtain ⟨l,b,xs,zs,rfl,rfl,hH,hB,hz,q⟩:=h
 cases rx
 cases ry
 obtain ⟨z,its,n,r,hl,e⟩:=I.lstM hH
 obtain ⟨z2,its2,n2,r2,hl2,e2⟩:=I.lstM hB
 refine PySem.P.add_list e e2 ?_ (by rw [List.size_toArray,List.size_toArray];omega)
 have ea:its.toArray++its2.toArray=(its++its2).toArray:=by simp
 rw [ea]
 exact ⟨.ref _,_,I.lnew (t':=s.toks) (r.append r2) (by rw [List.length_append];omega),rfl,q _ I.fresh⟩
def rRep:R2:=fun x y H Q=>∃ l k xs,x=.ref l∧y=.int k∧H l=some (.lst xs)∧-(2 ^ 63)≤k∧k<2 ^ 63∧xs.length*k.toNat≤sizeLine∧
 ∀ p,H p=none→Q (.ref p) (upd H p (.lst (List.replicate k.toNat xs).flatten))
theorem len_rep {α:Type} (xs:List α) (k:Nat):(List.replicate k xs).flatten.length=k*xs.length:=by
 induction k with
 | zero=>simp
 | succ k ih=>rw [List.replicate_succ,List.flatten_cons,List.length_append,ih,Nat.succ_mul,Nat.add_comm]
theorem op_rep:OpR X (binaryOp .Mult) rRep:=by
 intro pins s σ H x y v u Q I rx ry h
 obtain ⟨l,k,xs,rfl,rfl,hH,h1,h2,hz,q⟩:=h
 cases rx
 obtain ⟨t,rfl⟩:=ry
 obtain ⟨z,its,n,r,hl,e⟩:=I.lstM hH
 have hlen:its.toArray.size*k.toNat≤sizeLine:=by rw [List.size_toArray,←hl];exact hz
 have hcap:¬its.toArray.size*k.toNat>(2 ^ 63-1) / 8:=by
  have:(sizeLine:Nat)≤(2 ^ 63-1) / 8:=by decide
  omega
 have hfit:¬(!Builtin.List.listFitsIndex k)=true:=by
  rw [fitsIndex_both h1 h2]
  exact Bool.false_ne_true
 have hlong:¬Builtin.List.listTooLong (its.toArray.size*k.toNat)=true:=by
  rw [nh hlen]
  exact Bool.false_ne_true
 have hnew:List.foldl (fun x1 x2=>x1++x2) #[] (List.replicate (if its.toArray.isEmpty=true then 0 else k.toNat) its.toArray)=(List.replicate k.toNat its).flatten.toArray:=by
  have f0:∀ m:Nat,List.foldl (fun x1 x2=>x1++x2) #[] (List.replicate m its.toArray)=(List.replicate m its).flatten.toArray:=fun m=>by
   have:=foldl_rep its m []
   rw [List.nil_append] at this
   exact this
  rw [f0]
  cases its with
  | nil=>simp
  | cons a r'=>rw [if_neg (by simp)]
 refine wpAny_binaryOp_repeat_ref (T:="list") (U:="int") (by decide) ⟨_,e,rfl⟩ (fun s'=>typeIs_int s' k t) noFill_list_mul F.fills_int_mul F.slot_int_rmul repeat_list F.slot_int_index.lookup
  (call_meets F.slot_int_rmul (typeIs_int s k t) F.entry_int_rmul (F.args_int_rmul_2 _ _) (int___rmul___int_list k t l its.toArray n)
   ⟨e,rfl,⟨_,e,rfl⟩,call_meets F.slot_list_mul ⟨_,e,rfl⟩ F.entry_list_mul (F.args_list_mul_2 _ _) (AutoListH.list___mul___list_int_3 l its.toArray n k t hfit hcap hlong) ⟨e,?_⟩⟩)
 rw [hnew]
 exact ⟨.ref _,_,I.lnew (t':=s.toks) (r.rep k.toNat) (by rw [len_rep,Nat.mul_comm];exact hz),rfl,q _ I.fresh⟩
end
end L2
namespace Att
open PySem PySem.W PySem.Calls PyProof.Rows
theorem jt {P:Params} {h:Heap}:∀ (ns:List Int) (vs:List Value),WellAll P h vs (ns.map WData.int)→IntsAre vs ns:=by
 intro ns
 induction ns with
 | nil=>
  intro vs w
  rw [List.map_nil] at w
  cases w
  exact .nil
 | cons n ns ih=>
  intro vs w
  rw [List.map_cons] at w
  cases w with
  | cons a b=>
   cases a
   exact .cons _ _ (ih _ b)
theorem script_of {l:OpenLaw} {n:Nat} (hn:l.most=some n) {P:Params} {h:Heap} {args:List WData} {vals:List Value}
    (hpre:l.row.toRowW.claim.pre args=true) (hwl:WellAll P h vals args) :
    ∃ a vs ns,vals=[Value.ref a]∧args=[WData.list (ns.map WData.int)]∧h.get? a=some { cls:=.type "list",data:=.seq vs.toArray }∧IntsAre vs ns∧ns.length≤n:=by
  have hsh:WShape.hasAll [] args [.list .int]=true:=(pre_splitW hpre).1
  have hc:l.pre.holds [] { args:=args }=true:=(pre_splitW hpre).2
  obtain ⟨d,r,rfl,h1,h2⟩:=hasAllW_cons hsh
  obtain rfl:=hasAllW_nil h2
  obtain ⟨xs,rfl,h3⟩:=hasW_list h1
  obtain ⟨ns,rfl⟩:=items_int h3
  have hlen:ns.length≤n:=by
    unfold OpenLaw.pre at hc
    have h4:(WTm.not (.lt (.lit (.int (n:Int))) (.len (.arg 0)))).holds [] { args:=[.list (ns.map .int)] }=true:=by
      have h4:=(holds_andW hc).1
      rw [hn] at h4
      exact h4
    have h5:=condW_of h4 (w_not (w_lt w_lit (w_len_list (w_arg rfl))))
    rw [List.length_map] at h5
    refine Nat.le_of_not_lt fun q=>?_
    have q':(n:Int)<((ns.length:Nat):Int):=by omega
    first
      | (rw [decide_eq_true q'] at h5;exact absurd h5 (by decide))
      | (simp at h5;omega)
  cases hwl with
  | cons w1 w2=>
    cases w2
    cases w1 with
    | list ho hall=>exact ⟨_,_,ns,rfl,rfl,ho,jt ns _ hall,hlen⟩
theorem post_true (l:OpenLaw) (args:List WData):l.row.toRowW.claim.post args (.bool true) args=true:=
 postW_of (r:=l.row.toRowW) (X:=(true==true))
  (show WShape.has [] (.bool true) .bool=true by first | rfl | decide | simp [WShape.has,WShape.arms,WShape.armsAll])
  (show (WTm.eq .res (.lit (.bool true))).value [] { args:=args,res:=some (.bool true),after:=args }=some (.bool (true==true)) from w_eq_bool (w_res rfl) w_lit) rfl
theorem attach_call {l:OpenLaw} {n:Nat} {q:Program} {loose:List Str} {XP:(Str→Option Value)→Heap→Prop} {YP:World→Heap→Prop} {d:DefRec}
  (hn:l.most=some n) (hdf:d.params.defaults=[])
  (call:∀ (w:World) (s₀ s₁:Shared) (mg mb:Str→Option Value) (fa:Addr) (o:Obj) (pm cd doc:Value) (a:Addr) (vs:List Value) (ns:List Int),
   Ground q loose [] XP w s₀ mg mb s₁.heap→YP w s₁.heap→
   s₁.heap.get? fa=some o→o.data=.func (docDef d.name d.params d.body d.scope pm cd doc)→s₁.heap.CodeRec cd d.name→mg d.name=some (.ref fa)→
   s₁.heap.get? a=some { cls:=.type "list",data:=.seq vs.toArray }→IntsAre vs ns→ns.length≤n→s₁.gens=#[]→
   codeAny (model l.prog w) callerA (.call (.ref fa) ⟨[.ref a],[]⟩) (fun r s'=>r=.ok (.ret (.bool true))∧OldK s₁.heap s'.heap∧s'.os=s₁.os∧AllBare s'.gens) s₁) :
  WalkO q loose XP YP l.row.toRowW d [] (fun f vs=>PySem.call f vs):=by
 intro w s₀ s₁ mg mb G Y fa o pm cd doc dV kV ho hd hcd hD hmg hg args vals as hpre hlay hrd hwl hlo
 obtain rfl:dV=.none:=Dflts.none hD hdf
 obtain rfl:kV=.none:=Dflts.noKw hD
 obtain ⟨a,vs,ns,rfl,rfl,hobj,hints,hlen⟩:=script_of hn hpre hwl
 refine enter_call (codeAny_mono (call w s₀ s₁ mg mb fa o pm cd doc a vs ns G Y ho (fd_plain hd) hcd hmg hobj hints hlen hg) fun r s' hq=>?_)
 obtain ⟨rfl,h2,h3,h4⟩:=hq
 exact ⟨.inl ⟨.bool true,.bool true,[],rfl,fun _=>rfl,.bool true,post_true l _,fun _=>⟨List.Pairwise.nil,fun _ hm=>(nomatch hm)⟩⟩,h2,h3,h4⟩
end Att
namespace L2
open PySem PySem.Spec PyProof.Rows
theorem lB:∀ {vs:List Value} {ns:List Int},IntsAre vs ns→aF (ns.map V.int) vs
 | _,_,.nil=>.nil
 | _,_,.cons n t h=>.cons ⟨t,rfl⟩ (lB h)
def Only (H:Hp):Prop:=∀ b,H b=none∨∃ o xs,H b=some (.frz o (.lst xs))
theorem law_call {P:Program} {w:World} {K:PySem.W.Frag} {mg mb:Str→Option Value} {CX:CXT} {k:Nat} {fa a:Addr} {fd:FuncData} {x:Str} {sp:Sp} {s₁:Shared} {vs:List Value} {ns:List Int}
  (KX:K.In s₁.heap) (hns:s₁.heap.Ns mainGlobals mg) (hb:s₁.heap.Ns builtinsNs mb) (hbb:∀ x:Str,x≠"__name__"→mb x=bootBuiltins x) (hlim:s₁.heap.NoLimit) (hg:s₁.gens=#[])
  (ha:s₁.heap.get? a=some { cls:=.type "list",data:=.seq vs.toArray }) (hi:IntsAre vs ns) (hl:ns.length≤sizeLine) (hr:bq k callerA)
  (F:∀ base:Heap,K.In base→base.Ns mainGlobals mg→dM P w K mg base CX k fa fd [x] sp) (hbind:∀ (s:Shared) (u:Value),BindsTo s fd ⟨[u],[]⟩ [(x,u)])
  (hsp:∀ H:Hp,Only H→SqL K H a (ns.map V.int)→sp [.ref a] H (fun v _=>v=.bl true) fun _ _ _=>False)
  (hCX:∀ H e s',CX [] H s₁ (fun _ _ _=>False) e s'→False) :
  codeAny (model P w) callerA (.call (.ref fa) ⟨[.ref a],[]⟩) (fun r s'=>r=.ok (.ret (.bool true))∧OldK s₁.heap s'.heap∧s'.os=s₁.os∧AllBare s'.gens) s₁:=by
 have rv:=lB hi
 have lenV:=hi.length
 have core:∀ H:Hp,Only H→SqL K H a (ns.map V.int)→HOk P w H s₁.heap→(∀ b,H b≠none→b=a)→(H a≠none→K.lookup a=none)→
   codeAny (model P w) callerA (.call (.ref fa) ⟨[.ref a],[]⟩) (fun r s'=>r=.ok (.ret (.bool true))∧OldK s₁.heap s'.heap∧s'.os=s₁.os∧AllBare s'.gens) s₁:=by
  intro H hO hS hok hA hK
  have base_of:∀ {b:Addr} {o:Obj},s₁.heap.get? b=some o→H b=none→(hidT s₁.heap H).get? b=some o:=fun e n=>hidT_get e n
  have noA:∀ {b:Addr} {o:Obj} {es:Array DictEntry} {ep:Nat},s₁.heap.get? b=some o→o.data=.dict es ep→H b=none:=fun {b o es ep} e d=>by
   cases q:H b with
   | none=>rfl
   | some u=>
    have e':b=a:=hA b (by rw [q];simp)
    subst e'
    rw [ha] at e;cases e
    have d':Data.seq vs.toArray _=Data.dict es ep:=d
    cases d'
  have nsK:∀ {b:Addr} {m:Str→Option Value},s₁.heap.Ns b m→(hidT s₁.heap H).Ns b m:=fun {b m} ⟨o,es,ep,e,d,r⟩=>⟨o,es,ep,base_of e (noA e d),d,r⟩
  have hKb:K.In (hidT s₁.heap H):=fun b o e=>base_of (KX b o e) (by
   cases q:H b with
   | none=>rfl
   | some u=>
    have e':b=a:=hA b (by rw [q];simp)
    subst e'
    rw [hK (by rw [q];simp)] at e;cases e)
  have hM:Mod K mg (hidT s₁.heap H):=⟨hKb,nsK hns,⟨mb,nsK hb,hbb⟩,let ⟨mc,h1,h2⟩:=hlim;⟨mc,nsK h1,h2⟩⟩
  have e0:Env0 P w K mg (hidT s₁.heap H) callerA [] s₁ H:=⟨rfl,hM,fun b o e=>of_hidT e,Nat.le_of_eq (hidT_size _ _),trivial,fun b hb=>absurd (show b∈([]:List Addr) from hb) (by simp),hok,.of_eq hg⟩
  refine codeAny_mono ((F _ hKb (nsK hns)).run callerA [] s₁ H ⟨[.ref a],[]⟩ [.ref a] [.ref a] _ _ hr e0 (hbind s₁ (.ref a)) (.cons rfl .nil) (hsp H hO hS)) fun r s' h=>?_
  cases r with
  | error e=>exact (hCX H e s' h).elim
  | ok fl=>
   cases fl with
   | next=>exact False.elim h
   | brk=>exact False.elim h
   | cont=>exact False.elim h
   | ret u=>
    obtain ⟨v,H',os,bare,un,hok',r',q⟩:=h
    have q':v=.bl true:=q
    subst q'
    obtain rfl:u=Value.bool true:=r'
    refine ⟨rfl,OldK.of_keep fun b o e=>?_,os,bare⟩
    cases q:H b with
    | none=>exact un.keep b o e q (by intro z;exact absurd (show b∈([]:List Addr) from z) (by simp)) (by simp)
    | some u=>
     rcases hO b with z | ⟨ob,xs,z⟩
     ·
      rw [q] at z;cases z
     ·
      have z2:=un.frzs b ob _ z
      obtain ⟨e1,_⟩:=hok b _ z
      obtain ⟨e2,_⟩:=hok' b _ z2
      rw [e] at e1;cases e1
      exact e2
 cases hk:K.lookup a with
 | some o=>
  have e:=KX a o hk
  rw [ha] at e
  cases e
  refine core (fun _=>none) (fun _=>.inl rfl) (.inr ⟨_,vs.toArray,_,hk,rfl,rfl,rfl,by rw [List.size_toArray,lenV];exact hl,by simpa using rv⟩) (fun b u z=>by have z':(none:Option HO)=some u:=z;cases z') (fun b z=>absurd rfl z) fun z=>absurd rfl z
 | none=>
  refine core (fun b=>if b=a then some (.frz { cls:=.type "list",data:=.seq vs.toArray } (.lst (ns.map V.int))) else none) (fun b=>?_) (.inl (.inr ⟨{ cls:=.type "list",data:=.seq vs.toArray },if_pos rfl⟩)) (fun b u z=>?_) (fun b z=>?_) fun _=>hk
  ·
   by_cases hb:b=a
   ·
    exact .inr ⟨_,_,if_pos hb⟩
   ·
    exact .inl (if_neg hb)
  ·
   by_cases hb:b=a
   ·
    have z':=(if_pos hb).symm.trans z
    cases z'
    subst hb
    exact ⟨ha,by rw [List.length_map];exact hl,vs,_,rv,ha⟩
   ·
    have z':=(if_neg hb).symm.trans z
    cases z'
  ·
   by_cases hb:b=a
   ·
    exact hb
   ·
    exact absurd (if_neg hb) z
end L2
namespace L2
open PySem PySem.Spec PyProof.Rows
abbrev KOf {K:PySem.W.Frag} {h:Heap} (_:K.In h):PySem.W.Frag:=K
theorem walk_of {l:PySem.W.OpenLaw} {n k:Nat} {q:Program} {loose:List Str} {XP:(Str→Option Value)→Heap→Prop} {YP:World→Heap→Prop} {d:DefRec} {K:Params→PySem.W.Frag} {CX:World→CXT} {sp:World→Sp} {x:Str}
  (hn:l.most=some n) (hn2:n≤sizeLine) (hdf:d.params.defaults=[]) (hr:bq k callerA)
  (hY:∀ (w:World) (h:Heap),YP w h→(K w.params).In h)
  (F:∀ (w:World) (mg:Str→Option Value) (fa:Addr) (h:Heap),(K w.params).In h→h.Ns mainGlobals mg→mg d.name=some (.ref fa)→
   ∃ fd:FuncData,(∀ (s:Shared) (u:Value),BindsTo s fd ⟨[u],[]⟩ [(x,u)])∧
    ∀ base:Heap,(K w.params).In base→base.Ns mainGlobals mg→dM l.prog w (K w.params) mg base (CX w) k fa fd [x] (sp w))
  (hsp:∀ (w:World) (H:Hp) (a:Addr) (ns:List Int),ns.length≤n→Only H→SqL (K w.params) H a (ns.map V.int)→sp w [.ref a] H (fun v _=>v=.bl true) fun _ _ _=>False)
  (hCX:∀ (w:World) (H:Hp) (s:Shared) (e:Value) (s':Shared),CX w [] H s (fun _ _ _=>False) e s'→False) :
  PySem.W.WalkO q loose XP YP l.row.toRowW d [] (fun f vs=>PySem.call f vs):=by
 refine Att.attach_call hn hdf fun w s₀ s₁ mg mb fa o pm cd doc a vs ns G Y ho hd hcd hmg hobj hints hlen hg=>?_
 have KX:=hY w _ Y
 obtain ⟨fd,hb,hF⟩:=F w mg fa _ KX G.T.g hmg
 exact law_call KX G.T.g G.T.b G.T.builtins G.T.nolimit hg hobj hints (Nat.le_trans hlen hn2) hr hF hb (fun H hO hS=>hsp w H a ns hlen hO hS) fun H e s'=>hCX w H s₁ e s'
theorem walk_ofK {l:PySem.W.OpenLaw} {n k:Nat} {q:Program} {loose:List Str} {XP:(Str→Option Value)→Heap→Prop} {YP:World→Heap→Prop} {d:DefRec} {K:Params→PySem.W.Frag} {CX:CXT} {sp:PySem.W.Frag→Sp} {x:Str}
  (hn:l.most=some n) (hn2:n≤sizeLine) (hdf:d.params.defaults=[]) (hr:bq k callerA)
  (hY:∀ (w:World) (h:Heap),YP w h→(K w.params).In h)
  (F:∀ (w:World) (mg:Str→Option Value) (fa:Addr) (h:Heap),(K w.params).In h→h.Ns mainGlobals mg→mg d.name=some (.ref fa)→
   ∃ fd:FuncData,(∀ (s:Shared) (u:Value),BindsTo s fd ⟨[u],[]⟩ [(x,u)])∧
    ∀ base:Heap,(K w.params).In base→base.Ns mainGlobals mg→dM l.prog w (K w.params) mg base CX k fa fd [x] (sp (K w.params)))
  (hsp:∀ (K:PySem.W.Frag) (H:Hp) (a:Addr) (ns:List Int),ns.length≤n→Only H→SqL K H a (ns.map V.int)→sp K [.ref a] H (fun v _=>v=.bl true) fun _ _ _=>False)
  (hCX:∀ (H:Hp) (s:Shared) (e:Value) (s':Shared),CX [] H s (fun _ _ _=>False) e s'→False) :
  PySem.W.WalkO q loose XP YP l.row.toRowW d [] (fun f vs=>PySem.call f vs):=
 walk_of (K:=K) (CX:=fun _=>CX) (sp:=fun w=>sp (K w.params)) hn hn2 hdf hr hY F (fun w H a ns h1 h2 h3=>hsp (K w.params) H a ns h1 h2 h3) fun _ H s e s'=>hCX H s e s'
end L2
namespace L2
open PySem PySem.Spec PyProof.Rows
def inClass (s:Stmt) (j:Nat):Stmt:=match s with
 | .ClassDef _ _ _ body _ _ _ _ _ _ _=>body.getD j (.Pass ⟨0,0,0,0⟩)
 | _=>.Pass ⟨0,0,0,0⟩
def a0 (s:Stmt):Arguments:=match s with
 | .FunctionDef _ a _ _ _ _ _ _ _ _=>a
 | _=>{ posonlyargs:=[],args:=[],vararg:=none,kwonlyargs:=[],kw_defaults:=[],kwarg:=none,defaults:=[] }
def aP (s:Stmt):List Stmt:=match s with
 | .FunctionDef _ _ b _ _ _ _ _ _ _=>b
 | _=>[]
def ap (s:Stmt):Scope:=match s with
 | .FunctionDef _ _ _ _ _ _ sc _ _ _=>sc
 | _=>{ kind:=.function,names:=[],isGenerator:=false,isCoroutine:=false }
abbrev CX0:CXT:=fun _ _ _ _ _ _=>False
abbrev E0:XK:=fun _ _ _=>False
theorem lC {X:Cx}:gJ CX0 X E0:=fun _ _ _ _ _ _ _ h=>h.elim
structure Fun (K:PySem.W.Frag) (x qual:Str) (st:Stmt) (f:Addr) (fd:FuncData):Prop where
 ex:∃ (oc:Value) (od:Option Addr) (kV doc pm:Value) (an:Option Addr) (cdv ct:Value) (osl:Array (Option Value)),
  fd=PySem.W.fnOf x qual (a0 st) (aP st) (ap st) .none kV doc pm an cdv ct∧K.lookup f=some ⟨oc,od,.func fd,osl⟩∧PySem.W.codeIn K cdv qual=true
 kp:PySem.W.keepIn K (.ref f)=true
section
variable {P:Program} {w:World} {K:PySem.W.Frag} {mg:Str→Option Value} {base:Heap}
theorem Fun.ok {x qual:Str} {st:Stmt} {f:Addr} {fd:FuncData} {N ps:List Str} {k:Nat} {sp:Sp} (F:Fun K x qual st f fd) (S:dN N ps (ap st)) (len:∀ vs H Q E,sp vs H Q E→vs.length=ps.length)
  (hbody:∀ (cdv:Value) (A:Around) (outer:List Env) (s:Shared) (H:Hp) (vs:List V) (Q:VK) (E:XK),bq k (A.deeper (envOfC qual (ap st) s.heap.objs.size f cdv))→sp vs H Q E→
   ∃ t,PSs (jr CX0 P w K mg base N qual (ap st) f cdv A outer s H E).nox (aP st) t∧t { nx:=fun _ H'=>Q .non H',rt:=Q } (start N vs) H):dM P w K mg base CX0 (k+1) f fd ps sp:=by
 obtain ⟨oc,od,kV,doc,pm,an,cdv,ct,osl,rfl,lk,hcd⟩:=F.ex
 refine fn_of lk hcd S len fun A outer s H vs Q E hr hsp=>?_
 obtain ⟨t,h,q⟩:=hbody cdv A outer s H vs Q E hr hsp
 exact ⟨t,h.nox,q⟩
theorem Fun.binds {x qual:Str} {st:Stmt} {f:Addr} {fd:FuncData} {ps:List Str} (F:Fun K x qual st f fd)
  (h:∀ (kV doc pm:Value) (an:Option Addr) (cdv ct:Value) (us:List Value),us.length=ps.length→bindArgs (PySem.W.fnOf x qual (a0 st) (aP st) (ap st) .none kV doc pm an cdv ct) ⟨us,[]⟩=pure (ps.zip us)):Binds K fd ps []:=by
 obtain ⟨oc,od,kV,doc,pm,an,cdv,ct,osl,rfl,lk,hcd⟩:=F.ex
 exact .all (h kV doc pm an cdv ct)
theorem iN {x qual:Str} {st:Stmt} {f:Addr} {oc:Value} {od an:Option Addr} {osl:Array (Option Value)} {kV doc pm cdv ct:Value} (l:K.lookup f=some ⟨oc,od,.func (PySem.W.fnOf x qual (a0 st) (aP st) (ap st) .none kV doc pm an cdv ct),osl⟩)
 (c:PySem.W.codeIn K cdv qual=true) (k:PySem.W.keepIn K (.ref f)=true):Fun K x qual st f (PySem.W.fnOf x qual (a0 st) (aP st) (ap st) .none kV doc pm an cdv ct):=⟨⟨oc,od,kV,doc,pm,an,cdv,ct,osl,rfl,l,c⟩,k⟩
end
section
variable {X:Cx}
theorem pv (i:Nat) {x:Str} {pos:Pos} (hN:X.N[i]?=some x:=by rfl) (hv:Vis X.env.scope x:=by first | exact Or.inl rfl | exact Or.inr (Or.inl rfl) | exact Or.inr (Or.inr rfl)) (hd:(x==("__debug__" : Str))=false:=by decide)
 (hcd:(x==("__classdict__" : Str))=false:=by decide):PE X (.Name x pos) (eX i):=pe_var hN hv hd hcd
end
def aG (H H':Hp):Prop:=∀ b o,H b=some o→H' b=some o
theorem aG.refl (H:Hp):aG H H:=fun _ _ h=>h
theorem aG.trans {H H1 H2:Hp} (a:aG H H1) (b:aG H1 H2):aG H H2:=fun c o h=>b c o (a c o h)
theorem aG.free {H H':Hp} (e:aG H H') {l:Addr} (h:H' l=Option.none):H l=Option.none:=by
 cases q:H l with
 | none=>rfl
 | some o=>
  rw [e l o q] at h
  cases h
end L2
end
section
set_option Elab.async false
set_option linter.all false
set_option maxRecDepth 100000
namespace L2
open PySem PySem.Spec PyProof.Rows
theorem me {prog:Program} {w:World} {A:Around} {R:Result→Shared→Prop} {s:Shared} {elt target iter:Expr} {ifs:List Expr} {scope:Scope} {pos:Pos} {it acc:Value} {env:Env} (J:Nat→Shared→Prop)
  (turn:∀ n s,J n s→wpAny (model prog w) A (pyNext it) (fun r s₁=>match r with
   | none=>R (.ok .next) s₁
   | some v=>wpAny (model prog w) A (letOwnedTupleGo target it v) (fun _ s₂=>wpAny (model prog w) A (assign target env v) (fun _ s₃=>
    wpAny (model prog w) A (forIn ifs true fun c r=>if r=true then do let ok ←isTrue c env (eval c env);pure (ForInStep.yield ok) else pure (ForInStep.yield r)) (fun ok s₄=>
     if ok=true then wpAny (model prog w) A (eval elt env) (fun x s₅=>
      wpAny (model prog w) A (call (.builtin "list.append") [acc,x]) (fun _ s₆=>∃ m,m<n∧J m s₆) (fun _ _=>False) s₅) (fun _ _=>False) s₄
     else ∃ m,m<n∧J m s₄) (fun _ _=>False) s₃) (fun _ _=>False) s₂) (fun _ _=>False) s₁) (fun _ _=>False) s)
  (n:Nat) (h:J n s) :
  codeAny (model prog w) A (.compLoop (.ListComp elt [⟨target,iter,ifs,0⟩] scope pos) 0 it acc env) R s:=by
 refine codeAny_loop rfl J (fun n s hI=>?_) n h
 show wpAny _ A ((compTurn (.ListComp elt [⟨target,iter,ifs,0⟩] scope pos) 0 it acc env).onRaise (fun x=>do noteFrame x env;theTreesLotGoes x)) _ _ s
 refine wpAny_noted ?_
 rw [compTurn_list]
 refine wpAny_bind (wpAny_standAt (wpAny_bind (wpAny_mono (turn n s hI) (fun r s₁ h₁=>?_) fun _ _ z=>z.elim)))
 cases r with
 | none=>exact wpAny_pure h₁
 | some v=>
  refine wpAny_bind (wpAny_mono h₁ (fun _ s₂ h₂=>?_) fun _ _ z=>z.elim)
  refine wpAny_bind (wpAny_mono h₂ (fun _ s₃ h₃=>wpAny_bind (wpAny_mono h₃ (fun ok s₄ h₄=>?_) fun _ _ z=>z.elim)) fun _ _ z=>z.elim)
  cases ok with
  | false=>exact wpAny_pure ⟨rfl,h₄⟩
  | true=>
   exact wpAny_bind (wpAny_bind (wpAny_mono h₄ (fun x s₅ h₅=>wpAny_bind (wpAny_mono h₅ (fun _ s₆ h₆=>wpAny_pure (wpAny_pure ⟨rfl,h₆⟩)) fun _ _ z=>z.elim)) fun _ _ z=>z.elim))
def fU (cs:List (Str×Addr)):List (Str×NameKind)→List (Str×Addr)→List (Str×Addr)
  | [],acc=>acc
  | (n,k)::r,acc=>if k==.free then fU cs r ((n,(cs.lookup n).getD 0)::acc) else fU cs r acc
theorem gv {scope:Scope} {env:Env} (h:∀ p∈scope.names,p.2=.free→∃ c,env.cells.lookup p.1=some c):closureFor scope env=pure (fU env.cells scope.names []):=by
  simp only [closureFor]
  have go:∀ (ns:List (Str×NameKind)) (acc:List (Str×Addr)),(∀ p∈ns,p.2=.free→∃ c,env.cells.lookup p.1=some c)→
      (forIn ns acc fun (x:Str×NameKind) (r:List (Str×Addr))=>(match x with | (name,kind)=>if (kind==NameKind.free)=true then do let y ←cellOf env name;pure (ForInStep.yield ((name,y)::r)) else pure (ForInStep.yield r):Sem _))=(pure (fU env.cells ns acc):Sem _):=by
    intro ns
    induction ns with
    | nil=>intro acc _;rfl
    | cons p r ih=>
      intro acc hp
      obtain ⟨n,k⟩:=p
      rw [List.forIn_cons]
      by_cases hk:k=.free
      · subst hk
        obtain ⟨c,hc⟩:=hp (n,.free) List.mem_cons_self rfl
        have hc:env.cells.lookup n=some c:=hc
        have e1:cellOf env n=pure c:=by unfold cellOf;rw [hc]
        simp only [e1,beq_self_eq_true,if_true,pure_bind,fU,hc,Option.getD_some]
        exact ih _ fun p hp'=>hp p (List.mem_cons_of_mem _ hp')
      · have hb:(k==NameKind.free)=false:=by simpa using hk
        simp only [hb,Bool.false_eq_true,if_false,pure_bind,fU]
        exact ih _ fun p hp'=>hp p (List.mem_cons_of_mem _ hp')
  have:=go scope.names [] h
  first
    | (rw [this];rfl)
    | (simp only [this];rfl)
    | simpa using this
theorem mf {cs:List (Str×Addr)} {x:Str} {c:Addr}:∀ (ns:List (Str×NameKind)) (acc:List (Str×Addr)),(∀ p∈ns,p.2=.free→∃ c,cs.lookup p.1=some c)→(fU cs ns acc).lookup x=some c→acc.lookup x=some c∨cs.lookup x=some c
  | [],acc,_,h=>.inl h
  | (n,k)::r,acc,hp,h=>by
    unfold fU at h
    by_cases hk:k=.free
    · subst hk
      simp only [beq_self_eq_true,if_true] at h
      obtain ⟨d,hd⟩:=hp (n,.free) List.mem_cons_self rfl
      have hd:cs.lookup n=some d:=hd
      rcases mf r _ (fun p hp'=>hp p (List.mem_cons_of_mem _ hp')) h with q | q
      · rw [List.lookup_cons] at q
        cases hx:x==n with
        | true=>
          rw [hx] at q
          have e:x=n:=by simpa using hx
          subst e
          rw [hd] at q
          simp at q
          exact .inr (by rw [hd,q])
        | false=>rw [hx] at q;exact .inl q
      · exact .inr q
    · have hb:(k==NameKind.free)=false:=by simpa using hk
      simp only [hb,Bool.false_eq_true,if_false] at h
      exact mf r _ (fun p hp'=>hp p (List.mem_cons_of_mem _ hp')) h
theorem kh {cs:List (Str×Addr)} {x:Str}:∀ (ns:List (Str×NameKind)) (acc:List (Str×Addr)),(∃ c,acc.lookup x=some c)→∃ c,(fU cs ns acc).lookup x=some c
  | [],acc,h=>h
  | (n,k)::r,acc,h=>by
    unfold fU
    split
    · refine kh r _ ?_
      rw [List.lookup_cons]
      cases hx:x==n with
      | true=>exact ⟨_,rfl⟩
      | false=>exact h
    · exact kh r _ h
theorem hV {cs:List (Str×Addr)} {x:Str}:∀ (ns:List (Str×NameKind)) (acc:List (Str×Addr)),(x,NameKind.free)∈ns→∃ c,(fU cs ns acc).lookup x=some c
  | [],_,h=>by simp at h
  | (n,k)::r,acc,h=>by
    unfold fU
    rcases List.mem_cons.mp h with e | h
    · cases e
      simp only [beq_self_eq_true,if_true]
      exact kh r _ ⟨_,by rw [List.lookup_cons,beq_self_eq_true]⟩
    · split
      · exact hV r _ h
      · exact hV r _ h
theorem dO {env:Env}:∀ {names:List (Str×NameKind)} {x:Str} {k:NameKind},
    (names.map fun (n,k)=>if (k==NameKind.free&&env.scope.kind==.function&&env.kindOf n==some .cell) then (n,NameKind.cell) else (n,k)).lookup x=some k→
    names.lookup x=some k∨names.lookup x=some .free
  | [],_,_,h=>by simp at h
  | (n,k')::r,x,k,h=>by
    have ih:=@dO env r x k
    have h:List.lookup x ((if (k'==NameKind.free&&env.scope.kind==.function&&env.kindOf n==some .cell)=true then (n,NameKind.cell) else (n,k'))::(r.map fun (n,k)=>if (k==NameKind.free&&env.scope.kind==.function&&env.kindOf n==some .cell) then (n,NameKind.cell) else (n,k)))=some k:=h
    by_cases hc:(k'==NameKind.free&&env.scope.kind==.function&&env.kindOf n==some .cell)=true
    · rw [if_pos hc,List.lookup_cons] at h
      rw [List.lookup_cons]
      cases hx:x==n with
      | true=>
        have:k'=.free:=by simp at hc;exact hc.1.1
        rw [this];exact .inr rfl
      | false=>rw [hx] at h;exact ih h
    · rw [if_neg hc,List.lookup_cons] at h
      rw [List.lookup_cons]
      cases hx:x==n with
      | true=>rw [hx] at h;exact .inl h
      | false=>rw [hx] at h;exact ih h
theorem fV {env:Env} {x:Str}:∀ (ns:List (Str×NameKind)),ns.lookup x=some .free→
    (ns.map fun (n,k)=>if (k==NameKind.free&&env.scope.kind==.function&&env.kindOf n==some .cell) then (n,NameKind.cell) else (n,k)).lookup x≠some .local
  | [],h=>by simp at h
  | (n,k')::r,h=>by
    have ih:=@fV env x r
    show List.lookup x ((if (k'==NameKind.free&&env.scope.kind==.function&&env.kindOf n==some .cell)=true then (n,NameKind.cell) else (n,k'))::(r.map fun (n,k)=>if (k==NameKind.free&&env.scope.kind==.function&&env.kindOf n==some .cell) then (n,NameKind.cell) else (n,k)))≠some .local
    rw [List.lookup_cons] at h
    by_cases hc:(k'==NameKind.free&&env.scope.kind==.function&&env.kindOf n==some .cell)=true
    · rw [if_pos hc,List.lookup_cons]
      cases hx:x==n with
      | true=>intro z;cases z
      | false=>rw [hx] at h;exact ih h
    · rw [if_neg hc,List.lookup_cons]
      cases hx:x==n with
      | true=>rw [hx] at h;intro z;rw [show some k'=some NameKind.free from h] at z;cases z
      | false=>rw [hx] at h;exact ih h
def be (X:Cx) (N:List Str) (scope:Scope) (cl:List (Str×Addr)) (C:Addr) (s:Shared) (H:Hp) (fp:List Addr):Cx:=
 { X with N:=N,s₀:=s,H₀:=H,env:=compEnvC scope cl C X.env,outer:=X.stack,stack:=X.stack,ex:=fp,fn:=fun _=>false,pn:=[],xe:=fun _ _=>False }
def PIfs (X:Cx) (ifs:List Expr) (t:TT):Prop:=
 ∀ (pins:List (Addr×Obj)) (s:Shared) (σ:St) (H:Hp) (Q:Bool→Hp→Prop),Inv X pins σ H s→t σ H Q→
  wpAny (model X.prog X.w) X.A (forIn ifs true fun c r=>if r=true then do let ok ←isTrue c X.env (eval c X.env);pure (ForInStep.yield ok) else pure (ForInStep.yield r)) (TP X pins σ Q) X.xe s
def tYes:TT:=fun _ H Q=>Q true H
theorem pifs_nil {X:Cx}:PIfs X [] tYes:=fun _ _ _ H _ I h=>wpAny_tests_nil ⟨H,I,h⟩
theorem pifs_one {X:Cx} {c:Expr} {t:TT} (hc:PT X c t):PIfs X [c] t:=fun pins s σ H Q I h=>wpAny_tests_one (hc pins s σ H Q I h)
structure c6 (X:Cx) (N:List Str) (m:Nat) (ix:List Nat) (scope:Scope):Prop where
 kind:scope.kind=.function
 nocell:∀ y∈scope.names,y.2≠.cell
 names:∀ y∈scope.names,y.2=.local→scope.names.lookup y.1=some .local
 len:N.length=m+ix.length
 frees:∀ y∈scope.names,y.2=.free→X.env.kindOf y.1=some .cell∨X.env.kindOf y.1=some .free
 share:∀ (j:Nat) (i:Nat) (x:Str),ix[j]?=some i→N[m+j]?=some x→X.N[i]?=some x∧scope.names.lookup x=some .free
def e8 (m:Nat) (ix:List Nat) (σ:St):St:=List.replicate m none++ix.map fun i=>(σ[i]?).join
def cLoop (J:It) (g:TG) (tt:TT) (te:TE) (D:Addr) (W:Nat→Nat→St→Hp→Prop) (Q:VK):Prop:=
 ∀ i n σ H,W i n σ H→(J.stop i H∧Q (.ref D) H)∨(J.go i H∧∃ N:St→Hp→Prop,(∀ σ' H',N σ' H'→∃ n',n'<n∧W (i+1) n' σ' H')∧
  ∀ x H',J.yld i H x H'→g x σ H' fun σ2 H2=>tt σ2 H2 fun b H3=>if b=true then te σ2 H3 fun v H4=>∃ ys,H4 D=some (.lst ys)∧ys.length<sizeLine∧N σ2 (upd H4 D (.lst (ys++[v]))) else N σ2 H3)
def tComp (wi:TI) (g:TG) (tt:TT) (te:TE) (m:Nat) (ix:List Nat):TE:=fun σ H Q=>wi σ H fun J H1=>∀ D,H1 D=none→
 ∃ W:Nat→Nat→St→Hp→Prop,(∃ n,W 0 n (e8 m ix σ) (upd H1 D (.lst [])))∧cLoop J g tt te D W Q
section
variable {X:Cx} {tg elt iter:Expr} {ifs:List Expr} {scope:Scope} {pos:Pos} {N:List Str} {m:Nat} {ix:List Nat} {g:TG} {tt:TT} {te:TE}
theorem lD {pins:List (Addr×Obj)} {s2:Shared} {σ:St} {H2:Hp} {it:Addr} {fp:List Addr} {tn:Nat→Heap→Prop} {J:It} {Q:VK} {E:Value→Shared→Prop} {RR:Value→Addr→Result→Shared→Prop}
  (I2:Inv X pins σ H2 s2) (T:Turn X.prog X.w X.K tg J fp it tn) (st2:tn 0 s2.heap) (f2:∀ b∈fp,FpOk X pins H2 b) (hc:X.calm=true) (S:c6 X N m ix scope)
  (hin:∀ cl C s H fp,PG (be X N scope cl C s H fp) tg g∧PIfs (be X N scope cl C s H fp) ifs tt∧PE (be X N scope cl C s H fp) elt te)
  (hW:∀ D,H2 D=none→∃ W:Nat→Nat→St→Hp→Prop,(∃ n,W 0 n (e8 m ix σ) (upd H2 D (.lst [])))∧cLoop J g tt te D W Q)
  (fin:∀ D C Hf s',Inv X pins σ Hf s'→Q (.ref D) Hf→(∃ mm,s'.heap.Ns C mm)→Hf C=none→C≠X.env.locals→X.s₀.heap.objs.size≤C→(∀ x c,X.env.cells.lookup x=some c→c≠C)→(∀ p∈X.pn++pins,p.1≠C)→RR (.ref D) C (.ok .next) s') :
  wpAny (model X.prog X.w) X.A (newList []) (fun acc s₃=>wpAny (model X.prog X.w) X.A (newFunctionEnv scope X.env.globals (fU X.env.cells scope.names []) [] X.env.qual none .none (some X.env)) (fun cenv s₄=>
   codeAny (model X.prog X.w) X.A (.compStart (.ListComp elt [⟨tg,iter,ifs,0⟩] scope pos) 0 (.ref it) acc { cenv with scope:=relabel scope X.env }) (RR acc cenv.locals) s₄) E s₃) E s2:=by
 have hcl:∀ p∈scope.names,p.2=.free→∃ c,X.env.cells.lookup p.1=some c:=fun p hp hk=>I2.ok.has _ (S.frees p hp hk)
 refine wpAny_newObj_type (wpAny_newFunctionEnv S.nocell (by intro y hy;simp at hy) (fun h₁ hns₁ hsb₁=>?_) S.kind)
 dsimp only at hns₁ hsb₁ ⊢
 obtain ⟨W,⟨n0,w0⟩,loop⟩:=hW s2.heap.objs.size I2.fresh
 have I3:Inv X pins σ (upd H2 s2.heap.objs.size (.lst [])) { s2 with heap:=s2.heap.push { cls:=.type "list",dict:=none,data:=.seq ([]:List Value).toArray } }:=I2.lnew (t':=s2.toks) (ys:=[]) (its:=[]) .nil (Nat.zero_le _)
 generalize hs3:({ s2 with heap:=s2.heap.push { cls:=.type "list",dict:=none,data:=.seq ([]:List Value).toArray } }:Shared)=s3 at I3
 generalize hH3:upd H2 s2.heap.objs.size (.lst [])=H3 at I3 w0
 have e3:s3.heap=s2.heap.push { cls:=.type "list",dict:=none,data:=.seq ([]:List Value).toArray }:=by rw [←hs3]
 rw [←e3] at hns₁ hsb₁ ⊢
 generalize hC:s3.heap.objs.size=C at hns₁ hsb₁ ⊢
 have old2:∀ b o,s2.heap.get? b=some o→s3.heap.get? b=some o:=fun b o e=>by rw [e3];exact Heap.get?_push_of_some _ e
 have old3:∀ b o,s3.heap.get? b=some o→h₁.get? b=some o:=fun b o e=>hsb₁.extBut b o (by rw [←hC];exact Nat.ne_of_lt (Heap.lt_size e)) (Heap.get?_push_of_some _ e)
 have fp3:∀ b∈fp,FpOk X pins H3 b:=fun b hb=>by
  obtain ⟨f0,f1,f2',f3,f4,f5⟩:=f2 b hb
  refine ⟨?_,f1,f2',f3,f4,f5⟩
  obtain ⟨o,ho,_⟩:=T.obj _ _ st2 b hb
  rw [←hH3,aB (Nat.ne_of_lt (Heap.lt_size ho))]
  exact f0
 have hCL:X.env.locals<C:=by rw [←hC];exact I3.lt
 have hCs:X.s₀.heap.objs.size≤C:=by rw [←hC];exact I3.sz
 have hCc:∀ x c,X.env.cells.lookup x=some c→c<C:=fun x c e=>by
  obtain ⟨v,q⟩:=I3.cell x c e
  rw [←hC];exact q.lt
 have hCp:∀ p∈X.pn++pins,p.1<C:=fun p hp=>by rw [←hC];exact Heap.lt_size (I3.pin p hp).1
 have hCf:∀ b∈fp,b<C:=fun b hb=>by
  obtain ⟨o,ho,_⟩:=T.obj _ _ st2 b hb
  rw [←hC];exact Heap.lt_size (old2 _ _ ho)
 let Y:Cx:=be X N scope (fU X.env.cells scope.names []) C s3 H3 fp
 have cells_of:∀ x c,(fU X.env.cells scope.names []).lookup x=some c→X.env.cells.lookup x=some c:=fun x c e=>by
  rcases mf _ _ hcl e with q | q
  ·
   simp at q
  ·
   exact q
 have stkne:∀ b∈fp,b∉frs X.stack:=fun b hb hs=>by
  obtain ⟨_,f1,f2',_⟩:=fp3 b hb
  rcases List.mem_cons.mp (I3.stkSub b hs) with e | e
  ·
   exact f1 e
  ·
   exact f2' e
 have okY:Y.Ok:=by
  refine ⟨I3.ok.mod,S.kind,I3.ok.glob,I3.ok.blt,by show s3.heap.objs.size≤C;rw [hC];exact Nat.le_refl _,fun x y c h1 h2=>I3.ok.inj x y c (cells_of x c h1) (cells_of y c h2),fun x hx=>?_,fun x c h _=>absurd (show false=true from h) (by simp),I3.ok.hd,I3.ok.frames,.inl rfl,fun b hb=>⟨?_,fun x c e=>?_⟩,fun b o e=>I3.bs b o e,Nat.le_trans I3.ok.bsz I3.sz,fun b o e hb=>?_,stkne,I3.stack,I3.stkFree⟩
  ·
   have hx':(relabel scope X.env).names.lookup x=some .cell∨(relabel scope X.env).names.lookup x=some .free:=hx
   have hf:scope.names.lookup x=some .free:=by
    rcases hx' with q | q
    ·
     rcases dO q with z | z
     ·
      exact absurd rfl (S.nocell _ (PySem.mem_of_lookup z))
     ·
      exact z
    ·
     rcases dO q with z | z
     ·
      exact z
     ·
      exact z
   exact hV _ _ (PySem.mem_of_lookup hf)
  ·
   exact Nat.ne_of_lt (hCf b hb)
  ·
   exact (fp3 b hb).2.2.2.2.1 x c (cells_of x c e)
  ·
   rcases (fp3 b hb).2.2.2.1 with z | z
   ·
    exact I3.ok.noex b o e z
   ·
    exact absurd (Nat.lt_of_lt_of_le (Heap.lt_size (I3.ok.bs b o e).1) z) (Nat.lt_irrefl _)
 have IY:Inv Y (X.pn++pins) (e8 m ix σ) H3 { s3 with heap:=h₁,toks:=s3.toks+([]:List (Str×Value)).length }:=by
  refine ⟨okY,rfl,I3.bare,Un.kept old3,⟨_,hns₁,fun j x v hx hv hvis=>?_⟩,fun x c e=>?_,I3.hok.fresh (by rw [hC];exact Nat.le_refl _),fun x c e=>I3.freeC x c (cells_of x c e),fun p hp=>?_,I3.hok.kept old3,?_⟩
  ·
   have hx:N[j]?=some x:=hx
   unfold e8 at hv
   by_cases hj:j<m
   ·
    rw [List.getElem?_append_left (by simpa using hj),List.getElem?_replicate] at hv
    split at hv <;> cases hv
   ·
    obtain ⟨k,rfl⟩ : ∃ k,j=m+k:=⟨j-m,by omega⟩
    rw [List.getElem?_append_right (by simp),List.length_replicate,Nat.add_sub_cancel_left,List.getElem?_map] at hv
    cases hi:ix[k]? with
    | none=>rw [hi] at hv;cases hv
    | some i=>
     rw [hi] at hv
     have hv':(σ[i]?).join=some v:=by simpa using hv
     have hv'':σ[i]?=some (some v):=by
      cases q:σ[i]? with
      | none=>rw [q] at hv';cases hv'
      | some z=>rw [q] at hv';simp at hv';rw [hv']
     obtain ⟨hXN,hfree⟩:=S.share k i x hi hx
     obtain ⟨mm,hn,hl⟩:=I3.loc
     have hkx:X.env.kindOf x=some .cell∨X.env.kindOf x=some .free:=S.frees (x,.free) (PySem.mem_of_lookup hfree) rfl
     have hvisX:Vis X.env.scope x:=by
      rcases hkx with q | q
      ·
       exact .inr (.inl q)
      ·
       exact .inr (.inr q)
     obtain ⟨u,r,l⟩:=hl i x v hXN hv'' hvisX
     refine ⟨u,r,.inr ⟨?_,?_⟩⟩
     ·
      have hvis:Vis (relabel scope X.env) x:=hvis
      rcases hvis with q | q | q
      ·
       rcases dO q with z | z
       ·
        rw [hfree] at z;cases z
       ·
        exact absurd q (fV scope.names hfree)
      ·
       exact .inl q
      ·
       exact .inr q
     ·
      obtain ⟨c,hcc⟩:=hV (cs:=X.env.cells) scope.names [] (PySem.mem_of_lookup hfree)
      refine ⟨c,hcc,?_⟩
      have hXc:=cells_of x c hcc
      rcases l with ⟨k1,_⟩ | ⟨_,c',e',z⟩
      ·
       exfalso
       have k1:X.env.kindOf x=some .local:=k1
       rcases hkx with q | q <;> rw [k1] at q <;> cases q
      ·
       rw [hXc] at e';cases e'
       obtain ⟨o,ho,hd⟩:=z
       exact ⟨o,old3 _ _ ho,hd⟩
  ·
   obtain ⟨v,o,ho,hd⟩:=I3.cell x c (cells_of x c e)
   exact ⟨v,o,old3 _ _ ho,hd⟩
  ·
   have hp':p∈X.pn++pins:=by
    have:p∈([]:List (Addr×Obj))++(X.pn++pins):=hp
    simpa using this
   obtain ⟨e,nn,ne,nf,d⟩:=I3.pin p hp'
   refine ⟨old3 _ _ e,nn,Nat.ne_of_lt (hCp p hp'),fun hs=>?_,d⟩
   rcases List.mem_cons.mp (I3.stkSub p.1 hs) with z | z
   ·
    exact ne z
   ·
    exact nf z
  ·
   unfold e8
   show _=N.length
   rw [S.len,List.length_append,List.length_replicate,List.length_map]
 have stat:∀ {H':Hp},(∀ b∈fp,H' b=none)→∀ b∈fp,FpOk Y (X.pn++pins) H' b:=fun hn b hb=>by
  obtain ⟨f0,f1,f2',f3,f4,f5⟩:=fp3 b hb
  refine ⟨hn b hb,Nat.ne_of_lt (hCf b hb),stkne b hb,.inl hb,fun x c e=>f4 x c (cells_of x c e),fun p hp=>?_⟩
  have hp':p∈X.pn++pins:=by
   have:p∈([]:List (Addr×Obj))++(X.pn++pins):=hp
   simpa using this
  exact f5 p hp'
 obtain ⟨hg,ht,he⟩:=hin (fU X.env.cells scope.names []) C s3 H3 fp
 have st4:tn 0 h₁:=T.keep _ _ _ st2 fun b _ o e=>old3 _ _ (old2 _ _ e)
 have run:∀ s4:Shared,s4={ s3 with heap:=h₁,toks:=s3.toks+([]:List (Str×Value)).length }→
   codeAny (model X.prog X.w) X.A (.compLoop (.ListComp elt [⟨tg,iter,ifs,0⟩] scope pos) 0 (.ref it) (.ref s2.heap.objs.size) (compEnvC scope (fU X.env.cells scope.names []) C X.env)) (RR (.ref s2.heap.objs.size) C) s4:=by
  rintro s4 rfl
  refine me (fun n s'=>∃ i σ' H',Inv Y (X.pn++pins) σ' H' s'∧tn i s'.heap∧(∀ b∈fp,H' b=none)∧W i n σ' H') ?_ n0 ⟨0,_,_,IY,st4,fun b hb=>(fp3 b hb).1,w0⟩
  rintro n s5 ⟨i,σ5,H5,I5,st5,fr5,w5⟩
  rcases loop i n σ5 H5 w5 with ⟨stop,qn⟩ | ⟨go,NN,hN,step⟩
  ·
   refine thn (T.done Y rfl rfl rfl hc i (X.pn++pins) s5 σ5 H5 (fun _ _=>False) I5 (stat fr5) st5 stop) fun r s6 ⟨hr,I6⟩=>?_
   subst hr
   have J6:Inv X pins σ H5 s6:=by
    refine I3.call' (ch:=fp) ?_ I6.base I6.hok I6.bare fun b hb=>?_
    ·
     exact I6.os
    ·
     obtain ⟨f0,f1,f2',f3,f4,f5⟩:=fp3 b hb
     exact ⟨f3,f1,f4,f5⟩
   obtain ⟨mm,hn6,_⟩:=I6.loc
   exact fin _ C H5 s6 J6 qn ⟨mm,hn6⟩ I6.free (Nat.ne_of_gt hCL) hCs (fun x c e=>Nat.ne_of_lt (hCc x c e)) fun p hp=>Nat.ne_of_lt (hCp p hp)
  ·
   refine thn (T.item Y rfl rfl rfl hc i (X.pn++pins) s5 σ5 H5 (fun _ _=>False) I5 (stat fr5) st5 go) fun r s6 ⟨u,hr,h6⟩=>?_
   subst hr
   refine thn h6 fun _ s7 ⟨x,H7,I7,r7,y7,st7,fr7⟩=>?_
   have I7':=I7.pinned (stat fr7) (T.obj _ _ st7)
   refine thn (hg _ s7 σ5 H7 x u _ I7' r7 (step x H7 y7)) fun _ s8 ⟨σ8,H8,I8,q8⟩=>?_
   refine thn (ht _ s8 σ8 H8 _ I8 q8) fun ok s9 ⟨H9,I9,q9⟩=>?_
   have again:∀ {s':Shared} {σ':St} {H':Hp},Inv Y ((X.pn++pins)++kc fp s7.heap) σ' H' s'→NN σ' H'→∃ m',m'<n∧∃ i σ' H',Inv Y (X.pn++pins) σ' H' s'∧tn i s'.heap∧(∀ b∈fp,H' b=none)∧W i m' σ' H':=fun {s' σ' H'} I' n'=>by
    obtain ⟨m',hm,w'⟩:=hN σ' H' n'
    refine ⟨m',hm,i+1,σ',H',I'.unpinned,T.keep _ _ _ st7 fun b hb o e=>(I'.pin (b,o) (List.mem_append_right _ (List.mem_append_right _ (eY hb e)))).1,fun b hb=>?_,w'⟩
    obtain ⟨o,e,d⟩:=T.obj _ _ st7 b hb
    exact (I'.pin (b,o) (List.mem_append_right _ (List.mem_append_right _ (eY hb e)))).2.1
   cases ok with
   | false=>exact again I9 q9
   | true=>
    refine thn (he _ s9 σ8 H9 _ I9 q9) fun y s10 ⟨vy,H10,I10,r10,ys,hD,hz,q10⟩=>?_
    exact thn (lA (X:=Y) _ s10 σ8 H10 (.ref s2.heap.objs.size) [vy] _ [y] (fun _ H'=>NN σ8 H') I10 rfl (.cons r10 .nil) ⟨_,ys,vy,rfl,rfl,hD,hz,q10⟩) fun _ s11 ⟨_,H11,I11,_,q11⟩=>again I11 q11
 exact codeAny_compStart_list (run _ (by rw [←hs3])) (T.self _ 0 _ _ _ st4 (run _ (by rw [←hs3])))
theorem pe_comp {wi:TI} (hc:X.calm=true) (S:c6 X N m ix scope) (hi:PI X tg iter wi)
  (hin:∀ cl C s H fp,PG (be X N scope cl C s H fp) tg g∧PIfs (be X N scope cl C s H fp) ifs tt∧PE (be X N scope cl C s H fp) elt te)
  (hs:∀ x,foldedSetIterable iter X.env x=pure x:=by intro _;rfl):PE X (.ListComp elt [⟨tg,iter,ifs,0⟩] scope pos) (tComp wi g tt te m ix):=by
 intro pins s σ H Q I h
 rw [eval_ListComp]
 refine wpAny_comprehension_free (use:=none) rfl hs (gv fun p hp hk=>I.ok.has _ (S.frees p hp hk)) S.kind S.names ?_
 show wpAny _ _ (eval iter X.env) _ _ _
 refine thn (hi pins s σ H _ I h) fun v s1 h1=>thn h1 fun itv s2 h2=>?_
 obtain ⟨it,fp,tn,J,H2,rfl,I2,T,st2,f2,hW⟩:=h2
 refine lD (RR:=fun acc C=>compPost (model X.prog X.w) X.A X.xe none (EP X pins σ Q) acc C) I2 T st2 f2 hc S hin hW ?_
 intro D C Hf s' J' q hn hCf hCL hCs hCc hCp
 obtain ⟨mm,hn⟩:=hn
 refine ⟨mm,hn,fun h' hs'=>⟨.ref D,Hf,?_,rfl,q⟩⟩
 exact J'.turned (t':=s'.toks) (fun b o hb e=>hs'.extBut b o hb e) hCf hCL (.inr hCs) hCc hCp
theorem ps_comp {wi:TI} {y:Str} {py spos:Pos} {iy:Nat} (hc:X.calm=true) (S:c6 X N m ix scope) (hi:PI X tg iter wi)
  (hin:∀ cl C s H fp,PG (be X N scope cl C s H fp) tg g∧PIfs (be X N scope cl C s H fp) ifs tt∧PE (be X N scope cl C s H fp) elt te)
  (hN:X.N.Nodup) (hiy:X.N[iy]?=some y) (hy:Loc X.env.scope y)
  (hsw:swapsWith (.ListComp elt [⟨tg,iter,ifs,0⟩] scope pos) (some (.Name y py)) spos.line X.env=pure true:=by rfl)
  (hf:X.fn y=true∨X.env.scope.names.lookup y=some .local:=by first | exact .inl rfl | exact .inr rfl | assumption)
  (hs:∀ x,foldedSetIterable iter X.env x=pure x:=by intro _;rfl):PS X (.Assign [.Name y py] (.ListComp elt [⟨tg,iter,ifs,0⟩] scope pos) spos) (tAsg (tComp wi g tt te m ix) (lq iy)):=by
 intro pins s σ H D0 I h
 rw [exec_Assign_Name_used _ _ _ _ hsw]
 refine wpAny_bind (wpAny_standAt (wpAny_bind ?_))
 show wpAny _ X.A (do let _ ←comprehension (.ListComp elt [⟨tg,iter,ifs,0⟩] scope pos) scope X.env _ (newList []) false (eval iter X.env) (some (assign (.Name y py) X.env))) _ _ s
 refine wpAny_bind (wpAny_mono (wpAny_comprehension_free (use:=some (assign (.Name y py) X.env)) (Q:=fun _ s'=>SP X pins D0 .next s') rfl hs (gv fun p hp hk=>I.ok.has _ (S.frees p hp hk)) S.kind S.names ?_) (fun _ s' hq=>wpAny_pure (wpAny_pure hq)) fun _ _ e=>e)
 refine thn (hi pins s σ H _ I h) fun v s1 h1=>thn h1 fun itv s2 h2=>?_
 obtain ⟨it,fp,tn,J,H2,rfl,I2,T,st2,f2,hW⟩:=h2
 refine lD (RR:=fun acc C=>compPost (model X.prog X.w) X.A X.xe (some (assign (.Name y py) X.env)) (fun _ s'=>SP X pins D0 .next s') acc C) I2 T st2 f2 hc S hin hW ?_
 intro D C Hf s' J' q hn hCf hCL hCs hCc hCp
 obtain ⟨mm,hn⟩:=hn
 show wpAny _ X.A (assign (.Name y py) X.env (.ref D)) _ _ _
 refine wpAny_assign_Name (lp (v:=.ref D) J' hN hiy hy rfl (fun s'' I'' hsb=>?_) hf)
 obtain ⟨a,hsb,ha⟩:=hsb
 have hCa:C≠a:=by
  rcases ha with e | e
  ·
   rw [e];exact hCL
  ·
   exact fun z=>hCc y a e z.symm
 refine ⟨mm,hn.sameBut hsb hCa,fun h' hs'=>⟨_,Hf,?_,q⟩⟩
 exact I''.turned (t':=s''.toks) (fun b o hb e=>hs'.extBut b o hb e) hCf hCL (.inr hCs) hCc hCp
end
end L2
end
section
set_option Elab.async false
set_option linter.all false
set_option maxRecDepth 100000
namespace L2
open PySem PySem.Spec
theorem aG.updS {H H':Hp} (s:aG H H') {p:Addr} {o:HO}:aG (upd H p o) (upd H' p o):=fun b u e=>by
 by_cases hb:b=p
 ·
  subst hb;rw [aA] at e ⊢;exact e
 ·
  rw [aB hb] at e ⊢;exact s _ _ e
theorem aG.new {H:Hp} {p:Addr} {o:HO} (n:H p=none):aG H (upd H p o):=fun b u e=>by rw [aB (aO e n)];exact e
theorem PE.weak {X:Cx} {e:Expr} {t t':TE} (h:PE X e t) (w:∀ σ H Q,t' σ H Q→t σ H Q):PE X e t':=fun pins s σ H Q I q=>h pins s σ H Q I (w σ H Q q)
theorem PT.weak {X:Cx} {e:Expr} {t t':TT} (h:PT X e t) (w:∀ σ H Q,t' σ H Q→t σ H Q):PT X e t':=fun pins s σ H Q I q=>h pins s σ H Q I (w σ H Q q)
theorem PW.weak {X:Cx} {e:Expr} {t t':TT} (h:PW X e t) (w:∀ σ H Q,t' σ H Q→t σ H Q):PW X e t':=fun wh pins s σ H Q I q=>h wh pins s σ H Q I (w σ H Q q)
theorem PA.weak {X:Cx} {es:List Expr} {t t':TA} (h:PA X es t) (w:∀ σ H Q,t' σ H Q→t σ H Q):PA X es t':=fun pos pins s σ H Q I q=>h pos pins s σ H Q I (w σ H Q q)
theorem PS.weak {X:Cx} {e:Stmt} {t t':TS} (h:PS X e t) (w:∀ D σ H,t' D σ H→t D σ H):PS X e t':=fun pins s σ H D I q=>h pins s σ H D I (w D σ H q)
theorem PSs.weak {X:Cx} {e:List Stmt} {t t':TS} (h:PSs X e t) (w:∀ D σ H,t' D σ H→t D σ H):PSs X e t':=fun pins s σ H D I q=>h pins s σ H D I (w D σ H q)
end L2
namespace Ew
open PySem PySem.Spec L2
inductive D where
 | non
 | bl (b:Bool)
 | int (i:Int)
 | str (x:Str)
 | lst (xs:List D)
 | tup (xs:List D)
 | obj (C:Addr) (fs:List (Str×D))
mutual
def Rep (H:Hp):D→V→Prop
 | .non,v=>v=.non
 | .bl b,v=>v=.bl b
 | .int i,v=>v=.int i
 | .str x,v=>v=.str x
 | .lst ds,v=>∃ a vs,v=.ref a∧H a=some (.lst vs)∧au H ds vs
 | .tup ds,v=>∃ a vs,v=.ref a∧H a=some (.tup vs)∧au H ds vs
 | .obj C fs,v=>∃ a dx fvs,v=.ref a∧H a=some (.ins C dx fvs)∧dD H fs fvs
def au (H:Hp):List D→List V→Prop
 | [],vs=>vs=[]
 | d::ds,vs=>∃ v r,vs=v::r∧Rep H d v∧au H ds r
def dD (H:Hp):List (Str×D)→List (Str×V)→Prop
 | [],vs=>vs=[]
 | fd::fs,vs=>∃ v r,vs=(fd.1,v)::r∧Rep H fd.2 v∧dD H fs r
end
section
variable {H H':Hp}
mutual
theorem Rep.mono (k:aG H H'):∀ (d:D) {v:V},Rep H d v→Rep H' d v
 | .non,_,h=>by unfold Rep at h ⊢;exact h
 | .bl b,_,h=>by unfold Rep at h ⊢;exact h
 | .int i,_,h=>by unfold Rep at h ⊢;exact h
 | .str x,_,h=>by unfold Rep at h ⊢;exact h
 | .lst ds,_,h=>by
  unfold Rep at h ⊢
  obtain ⟨a,vs,e,h1,h2⟩:=h
  exact ⟨a,vs,e,k _ _ h1,au.mono k ds h2⟩
 | .tup ds,_,h=>by
  unfold Rep at h ⊢
  obtain ⟨a,vs,e,h1,h2⟩:=h
  exact ⟨a,vs,e,k _ _ h1,au.mono k ds h2⟩
 | .obj C fs,_,h=>by
  unfold Rep at h ⊢
  obtain ⟨a,dx,vs,e,h1,h2⟩:=h
  exact ⟨a,dx,vs,e,k _ _ h1,dD.mono k fs h2⟩
theorem au.mono (k:aG H H'):∀ (ds:List D) {vs:List V},au H ds vs→au H' ds vs
 | [],_,h=>by unfold au at h ⊢;exact h
 | d::ds,_,h=>by
  unfold au at h ⊢
  obtain ⟨v,r,e,h1,h2⟩:=h
  exact ⟨v,r,e,Rep.mono k d h1,au.mono k ds h2⟩
theorem dD.mono (k:aG H H'):∀ (fs:List (Str×D)) {vs:List (Str×V)},dD H fs vs→dD H' fs vs
  | [],_,h=>by unfold dD at h ⊢;exact h
  | (f,d)::fs,_,h=>by
    unfold dD at h ⊢
    obtain ⟨v,r,e,h1,h2⟩:=h
    exact ⟨v,r,e,Rep.mono k d h1,dD.mono k fs h2⟩
end
end
theorem au.nil {H:Hp}:au H [] []:=by unfold au;rfl
theorem au.cons {H:Hp} {d:D} {ds:List D} {v:V} {vs:List V} (h:Rep H d v) (t:au H ds vs):au H (d::ds) (v::vs):=by unfold au;exact ⟨v,vs,rfl,h,t⟩
theorem au.length {H:Hp}:∀ {ds:List D} {vs:List V},au H ds vs→vs.length=ds.length
 | [],_,h=>by unfold au at h;rw [h];rfl
 | d::ds,_,h=>by
  unfold au at h
  obtain ⟨v,r,rfl,_,h2⟩:=h
  simp [au.length h2]
theorem au.get {H:Hp}:∀ {ds:List D} {vs:List V} {i:Nat} {d:D},au H ds vs→ds[i]?=some d→∃ v,vs[i]?=some v∧Rep H d v
 | [],_,i,_,_,e=>by simp at e
 | d::ds,_,0,d',h,e=>by
  unfold au at h
  obtain ⟨v,r,rfl,h1,h2⟩:=h
  simp at e;subst e
  exact ⟨v,rfl,h1⟩
 | d::ds,_,i+1,d',h,e=>by
  unfold au at h
  obtain ⟨v,r,rfl,h1,h2⟩:=h
  obtain ⟨u,e1,e2⟩:=au.get (i:=i) h2 (by simpa using e)
  exact ⟨u,by simpa using e1,e2⟩
theorem au.append {H:Hp}:∀ {ds es:List D} {vs us:List V},au H ds vs→au H es us→au H (ds++es) (vs++us)
 | [],_,_,_,h,t=>by unfold au at h;rw [h];exact t
 | d::ds,_,_,_,h,t=>by
  unfold au at h
  obtain ⟨v,r,rfl,h1,h2⟩:=h
  exact .cons h1 (au.append h2 t)
theorem au.take {H:Hp}:∀ {ds:List D} {vs:List V} (n:Nat),au H ds vs→au H (ds.take n) (vs.take n)
 | [],_,n,h=>by unfold au at h;rw [h];simp;exact .nil
 | d::ds,_,0,h=>by simp;exact .nil
 | d::ds,_,n+1,h=>by
  unfold au at h
  obtain ⟨v,r,rfl,h1,h2⟩:=h
  exact .cons h1 (au.take n h2)
theorem au.drop {H:Hp}:∀ {ds:List D} {vs:List V} (n:Nat),au H ds vs→au H (ds.drop n) (vs.drop n)
 | [],_,n,h=>by unfold au at h;rw [h];simp;exact .nil
 | d::ds,_,0,h=>by simpa using h
 | d::ds,_,n+1,h=>by
  unfold au at h
  obtain ⟨v,r,rfl,h1,h2⟩:=h
  exact au.drop n h2
theorem au.set {H:Hp}:∀ {ds:List D} {vs:List V} (n:Nat) {d:D} {v:V},Rep H d v→au H ds vs→au H (ds.set n d) (vs.set n v)
 | [],_,n,_,_,_,h=>by unfold au at h;rw [h];simp;exact .nil
 | d::ds,_,0,_,_,q,h=>by
  unfold au at h
  obtain ⟨v,r,rfl,h1,h2⟩:=h
  exact .cons q h2
 | d::ds,_,n+1,_,_,q,h=>by
  unfold au at h
  obtain ⟨v,r,rfl,h1,h2⟩:=h
  exact .cons h1 (au.set n q h2)
theorem au.reverse {H:Hp}:∀ {ds:List D} {vs:List V},au H ds vs→au H ds.reverse vs.reverse
 | [],_,h=>by unfold au at h;rw [h];simp;exact .nil
 | d::ds,_,h=>by
  unfold au at h
  obtain ⟨v,r,rfl,h1,h2⟩:=h
  rw [List.reverse_cons,List.reverse_cons]
  exact au.append (au.reverse h2) (.cons h1 .nil)
theorem dD.lookup {H:Hp} {f:Str}:∀ {fs:List (Str×D)} {vs:List (Str×V)} {d:D},dD H fs vs→fs.lookup f=some d→∃ v,vs.lookup f=some v∧Rep H d v
  | [],_,_,_,e=>by simp at e
  | (g,d')::fs,_,d,h,e=>by
    unfold dD at h
    obtain ⟨v,r,rfl,h1,h2⟩:=h
    rw [List.lookup_cons] at e ⊢
    cases hx:f==g with
    | true=>rw [hx] at e;simp at e;subst e;exact ⟨v,by simp,h1⟩
    | false=>rw [hx] at e;exact dD.lookup h2 e
theorem dD.none {H:Hp} {f:Str}:∀ {fs:List (Str×D)} {vs:List (Str×V)},dD H fs vs→fs.lookup f=none→vs.lookup f=none
  | [],_,h,e=>by unfold dD at h;rw [h];rfl
  | (g,d')::fs,_,h,e=>by
    unfold dD at h
    obtain ⟨v,r,rfl,h1,h2⟩:=h
    rw [List.lookup_cons] at e ⊢
    cases hx:f==g with
    | true=>rw [hx] at e;simp at e
    | false=>rw [hx] at e;exact dD.none h2 e
mutual
def Own (H:Hp):D→V→List Addr→Prop
 | .non,v,L=>v=.non∧L=[]
 | .bl b,v,L=>v=.bl b∧L=[]
 | .int i,v,L=>v=.int i∧L=[]
 | .str x,v,L=>v=.str x∧L=[]
 | .lst ds,v,L=>∃ a vs M,v=.ref a∧H a=some (.lst vs)∧aE H ds vs M∧a∉M∧L=a::M
 | .tup ds,v,L=>∃ a vs M,v=.ref a∧H a=some (.tup vs)∧aE H ds vs M∧a∉M∧L=a::M
 | .obj C fs,v,L=>∃ a dx fvs M,v=.ref a∧H a=some (.ins C dx fvs)∧H dx=some (.own a)∧aQ H fs fvs M∧a∉M∧dx∉M∧L=a::dx::M
def aE (H:Hp):List D→List V→List Addr→Prop
 | [],vs,L=>vs=[]∧L=[]
 | d::ds,vs,L=>∃ v r M N,vs=v::r∧Own H d v M∧aE H ds r N∧(∀ a∈M,a∉N)∧L=M++N
def aQ (H:Hp):List (Str×D)→List (Str×V)→List Addr→Prop
 | [],vs,L=>vs=[]∧L=[]
 | fd::fs,vs,L=>∃ v r M N,vs=(fd.1,v)::r∧Own H fd.2 v M∧aQ H fs r N∧(∀ a∈M,a∉N)∧L=M++N
end
section
variable {H H':Hp}
mutual
theorem Own.agree:∀ (d:D) {v:V} {L:List Addr},Own H d v L→(∀ a∈L,H' a=H a)→Own H' d v L
 | .non,_,_,h,_=>by unfold Own at h ⊢;exact h
 | .bl b,_,_,h,_=>by unfold Own at h ⊢;exact h
 | .int i,_,_,h,_=>by unfold Own at h ⊢;exact h
 | .str x,_,_,h,_=>by unfold Own at h ⊢;exact h
 | .lst ds,_,_,h,k=>by
  unfold Own at h ⊢
  obtain ⟨a,vs,M,e,h1,h2,n,rfl⟩:=h
  exact ⟨a,vs,M,e,by rw [k a List.mem_cons_self];exact h1,aE.agree ds h2 fun b hb=>k b (List.mem_cons_of_mem _ hb),n,rfl⟩
 | .tup ds,_,_,h,k=>by
  unfold Own at h ⊢
  obtain ⟨a,vs,M,e,h1,h2,n,rfl⟩:=h
  exact ⟨a,vs,M,e,by rw [k a List.mem_cons_self];exact h1,aE.agree ds h2 fun b hb=>k b (List.mem_cons_of_mem _ hb),n,rfl⟩
 | .obj C fs,_,_,h,k=>by
  unfold Own at h ⊢
  obtain ⟨a,dx,vs,M,e,h1,h3,h2,n,n2,rfl⟩:=h
  exact ⟨a,dx,vs,M,e,by rw [k a List.mem_cons_self];exact h1,by rw [k dx (List.mem_cons_of_mem _ List.mem_cons_self)];exact h3,aQ.agree fs h2 fun b hb=>k b (List.mem_cons_of_mem _ (List.mem_cons_of_mem _ hb)),n,n2,rfl⟩
theorem aE.agree:∀ (ds:List D) {vs:List V} {L:List Addr},aE H ds vs L→(∀ a∈L,H' a=H a)→aE H' ds vs L
 | [],_,_,h,_=>by unfold aE at h ⊢;exact h
 | d::ds,_,_,h,k=>by
  unfold aE at h ⊢
  obtain ⟨v,r,M,N,e,h1,h2,n,rfl⟩:=h
  exact ⟨v,r,M,N,e,Own.agree d h1 fun b hb=>k b (List.mem_append_left _ hb),aE.agree ds h2 fun b hb=>k b (List.mem_append_right _ hb),n,rfl⟩
theorem aQ.agree:∀ (fs:List (Str×D)) {vs:List (Str×V)} {L:List Addr},aQ H fs vs L→(∀ a∈L,H' a=H a)→aQ H' fs vs L
  | [],_,_,h,_=>by unfold aQ at h ⊢;exact h
  | (f,d)::fs,_,_,h,k=>by
    unfold aQ at h ⊢
    obtain ⟨v,r,M,N,e,h1,h2,n,rfl⟩:=h
    exact ⟨v,r,M,N,e,Own.agree d h1 fun b hb=>k b (List.mem_append_left _ hb),aQ.agree fs h2 fun b hb=>k b (List.mem_append_right _ hb),n,rfl⟩
end
mutual
theorem Own.rep:∀ (d:D) {v:V} {L:List Addr},Own H d v L→(∀ a∈L,H' a=H a)→Rep H' d v
 | .non,_,_,h,_=>by unfold Own at h;unfold Rep;exact h.1
 | .bl b,_,_,h,_=>by unfold Own at h;unfold Rep;exact h.1
 | .int i,_,_,h,_=>by unfold Own at h;unfold Rep;exact h.1
 | .str x,_,_,h,_=>by unfold Own at h;unfold Rep;exact h.1
 | .lst ds,_,_,h,k=>by
  unfold Own at h;unfold Rep
  obtain ⟨a,vs,M,e,h1,h2,n,rfl⟩:=h
  exact ⟨a,vs,e,by rw [k a List.mem_cons_self];exact h1,aE.rep ds h2 fun b hb=>k b (List.mem_cons_of_mem _ hb)⟩
 | .tup ds,_,_,h,k=>by
  unfold Own at h;unfold Rep
  obtain ⟨a,vs,M,e,h1,h2,n,rfl⟩:=h
  exact ⟨a,vs,e,by rw [k a List.mem_cons_self];exact h1,aE.rep ds h2 fun b hb=>k b (List.mem_cons_of_mem _ hb)⟩
 | .obj C fs,_,_,h,k=>by
  unfold Own at h;unfold Rep
  obtain ⟨a,dx,vs,M,e,h1,h3,h2,n,n2,rfl⟩:=h
  exact ⟨a,dx,vs,e,by rw [k a List.mem_cons_self];exact h1,aQ.rep fs h2 fun b hb=>k b (List.mem_cons_of_mem _ (List.mem_cons_of_mem _ hb))⟩
theorem aE.rep:∀ (ds:List D) {vs:List V} {L:List Addr},aE H ds vs L→(∀ a∈L,H' a=H a)→au H' ds vs
 | [],_,_,h,_=>by unfold aE at h;unfold au;exact h.1
 | d::ds,_,_,h,k=>by
  unfold aE at h;unfold au
  obtain ⟨v,r,M,N,e,h1,h2,n,rfl⟩:=h
  exact ⟨v,r,e,Own.rep d h1 fun b hb=>k b (List.mem_append_left _ hb),aE.rep ds h2 fun b hb=>k b (List.mem_append_right _ hb)⟩
theorem aQ.rep:∀ (fs:List (Str×D)) {vs:List (Str×V)} {L:List Addr},aQ H fs vs L→(∀ a∈L,H' a=H a)→dD H' fs vs
  | [],_,_,h,_=>by unfold aQ at h;unfold dD;exact h.1
  | (f,d)::fs,_,_,h,k=>by
    unfold aQ at h;unfold dD
    obtain ⟨v,r,M,N,e,h1,h2,n,rfl⟩:=h
    exact ⟨v,r,e,Own.rep d h1 fun b hb=>k b (List.mem_append_left _ hb),aQ.rep fs h2 fun b hb=>k b (List.mem_append_right _ hb)⟩
end
mutual
theorem Own.cell:∀ (d:D) {v:V} {L:List Addr},Own H d v L→∀ a∈L,∃ o,H a=some o
 | .non,_,_,h=>by unfold Own at h;rw [h.2];intro a ha;cases ha
 | .bl b,_,_,h=>by unfold Own at h;rw [h.2];intro a ha;cases ha
 | .int i,_,_,h=>by unfold Own at h;rw [h.2];intro a ha;cases ha
 | .str x,_,_,h=>by unfold Own at h;rw [h.2];intro a ha;cases ha
 | .lst ds,_,_,h=>by
  unfold Own at h
  obtain ⟨a,vs,M,e,h1,h2,n,rfl⟩:=h
  intro b hb
  rcases List.mem_cons.mp hb with rfl | hb
  ·
   exact ⟨_,h1⟩
  ·
   exact aE.cell ds h2 b hb
 | .tup ds,_,_,h=>by
  unfold Own at h
  obtain ⟨a,vs,M,e,h1,h2,n,rfl⟩:=h
  intro b hb
  rcases List.mem_cons.mp hb with rfl | hb
  ·
   exact ⟨_,h1⟩
  ·
   exact aE.cell ds h2 b hb
 | .obj C fs,_,_,h=>by
  unfold Own at h
  obtain ⟨a,dx,vs,M,e,h1,h3,h2,n,n2,rfl⟩:=h
  intro b hb
  rcases List.mem_cons.mp hb with rfl | hb
  ·
   exact ⟨_,h1⟩
  ·
   rcases List.mem_cons.mp hb with rfl | hb
   ·
    exact ⟨_,h3⟩
   ·
    exact aQ.cell fs h2 b hb
theorem aE.cell:∀ (ds:List D) {vs:List V} {L:List Addr},aE H ds vs L→∀ a∈L,∃ o,H a=some o
 | [],_,_,h=>by unfold aE at h;rw [h.2];intro a ha;cases ha
 | d::ds,_,_,h=>by
  unfold aE at h
  obtain ⟨v,r,M,N,e,h1,h2,n,rfl⟩:=h
  intro b hb
  rcases List.mem_append.mp hb with hb | hb
  ·
   exact Own.cell d h1 b hb
  ·
   exact aE.cell ds h2 b hb
theorem aQ.cell:∀ (fs:List (Str×D)) {vs:List (Str×V)} {L:List Addr},aQ H fs vs L→∀ a∈L,∃ o,H a=some o
  | [],_,_,h=>by unfold aQ at h;rw [h.2];intro a ha;cases ha
  | (f,d)::fs,_,_,h=>by
    unfold aQ at h
    obtain ⟨v,r,M,N,e,h1,h2,n,rfl⟩:=h
    intro b hb
    rcases List.mem_append.mp hb with hb | hb
    · exact Own.cell d h1 b hb
    · exact aQ.cell fs h2 b hb
end
mutual
theorem Own.uniq:∀ (d:D) {v:V} {L L':List Addr},Own H d v L→Own H d v L'→L=L'
 | .non,_,_,_,h,h'=>by unfold Own at h h';rw [h.2,h'.2]
 | .bl b,_,_,_,h,h'=>by unfold Own at h h';rw [h.2,h'.2]
 | .int i,_,_,_,h,h'=>by unfold Own at h h';rw [h.2,h'.2]
 | .str x,_,_,_,h,h'=>by unfold Own at h h';rw [h.2,h'.2]
 | .lst ds,_,_,_,h,h'=>by
  unfold Own at h h'
  obtain ⟨a,vs,M,e,h1,h2,n,rfl⟩:=h
  obtain ⟨a',vs',M',e',h1',h2',n',rfl⟩:=h'
  rw [e] at e';cases e'
  rw [h1] at h1';cases h1'
  rw [aE.uniq ds h2 h2']
 | .tup ds,_,_,_,h,h'=>by
  unfold Own at h h'
  obtain ⟨a,vs,M,e,h1,h2,n,rfl⟩:=h
  obtain ⟨a',vs',M',e',h1',h2',n',rfl⟩:=h'
  rw [e] at e';cases e'
  rw [h1] at h1';cases h1'
  rw [aE.uniq ds h2 h2']
 | .obj C fs,_,_,_,h,h'=>by
  unfold Own at h h'
  obtain ⟨a,dx,vs,M,e,h1,h3,h2,n,n2,rfl⟩:=h
  obtain ⟨a',dx',vs',M',e',h1',h3',h2',n',n2',rfl⟩:=h'
  rw [e] at e';cases e'
  rw [h1] at h1';cases h1'
  rw [aQ.uniq fs h2 h2']
theorem aE.uniq:∀ (ds:List D) {vs:List V} {L L':List Addr},aE H ds vs L→aE H ds vs L'→L=L'
 | [],_,_,_,h,h'=>by unfold aE at h h';rw [h.2,h'.2]
 | d::ds,_,_,_,h,h'=>by
  unfold aE at h h'
  obtain ⟨v,r,M,N,e,h1,h2,n,rfl⟩:=h
  obtain ⟨v',r',M',N',e',h1',h2',n',rfl⟩:=h'
  rw [e] at e';cases e'
  rw [Own.uniq d h1 h1',aE.uniq ds h2 h2']
theorem aQ.uniq:∀ (fs:List (Str×D)) {vs:List (Str×V)} {L L':List Addr},aQ H fs vs L→aQ H fs vs L'→L=L'
  | [],_,_,_,h,h'=>by unfold aQ at h h';rw [h.2,h'.2]
  | (f,d)::fs,_,_,_,h,h'=>by
    unfold aQ at h h'
    obtain ⟨v,r,M,N,e,h1,h2,n,rfl⟩:=h
    obtain ⟨v',r',M',N',e',h1',h2',n',rfl⟩:=h'
    rw [e] at e';cases e'
    rw [Own.uniq d h1 h1',aQ.uniq fs h2 h2']
end
theorem Own.mono (k:aG H H') {d:D} {v:V} {L:List Addr} (h:Own H d v L):Own H' d v L:=h.agree d fun a ha=>by
 obtain ⟨o,ho⟩:=Own.cell d h a ha
 rw [ho,k _ _ ho]
theorem aE.mono (k:aG H H') {d:List D} {v:List V} {L:List Addr} (h:aE H d v L):aE H' d v L:=h.agree d fun a ha=>by
 obtain ⟨o,ho⟩:=aE.cell d h a ha
 rw [ho,k _ _ ho]
theorem aQ.mono (k:aG H H') {d:List (Str×D)} {v:List (Str×V)} {L:List Addr} (h:aQ H d v L):aQ H' d v L:=h.agree d fun a ha=>by
 obtain ⟨o,ho⟩:=aQ.cell d h a ha
 rw [ho,k _ _ ho]
end
inductive R where
 | sh (d:D)
 | fr (ds:List D)
 | bw (ds:List D)
def R.view:R→D
 | .sh d=>d
 | .fr ds=>.lst ds
 | .bw ds=>.lst ds
inductive E where
 | sh (d:D)
 | ow (ds:List D)
 | ob (a C:Addr) (fs:List (Str×D))
 | nw (d:D)
 | on (a:Addr) (d:D)
 | scr (K:PySem.W.Frag) (ns:List Int)
abbrev DSt:=List (Option E)
structure Wd (H Hs Hs' H':Hp):Prop where
 keep:aG H H'
 sub:aG Hs' H'
 base:aG Hs Hs'
 new:∀ a o,Hs' a=some o→Hs a=some o∨H a=none
theorem Wd.refl {H Hs:Hp} (s:aG Hs H):Wd H Hs Hs H:=⟨.refl _,s,.refl _,fun _ _ e=>.inl e⟩
theorem Wd.trans {H Hs H1s H1 H2s H2:Hp} (a:Wd H Hs H1s H1) (b:Wd H1 H1s H2s H2):Wd H Hs H2s H2:=
 ⟨a.keep.trans b.keep,b.sub,a.base.trans b.base,fun c o e=>by
  rcases b.new c o e with q | q
  ·
   exact a.new c o q
  ·
   exact .inr (a.keep.free q)⟩
theorem Wd.stay {H Hs Hs' H':Hp} (w:Wd H Hs Hs' H') {a:Addr} {o:HO} (h:H a=some o) (n:Hs a=none):Hs' a=none:=by
 cases e:Hs' a with
 | none=>rfl
 | some u=>
  rcases w.new a u e with q | q
  ·
   rw [n] at q;cases q
  ·
   rw [h] at q;cases q
theorem Wd.lay {H Hs:Hp} (s:aG Hs H) {p:Addr} {o:HO} (n:H p=none):Wd H Hs (upd Hs p o) (upd H p o):=
 ⟨.new n,s.updS,.new (s.free n),fun a u e=>by
  by_cases ha:a=p
  ·
   subst ha;exact .inr n
  ·
   rw [aB ha] at e;exact .inl e⟩
theorem Wd.fresh {H Hs:Hp} (s:aG Hs H) {p:Addr} {o:HO} (n:H p=none):Wd H Hs Hs (upd H p o):=
 ⟨.new n,s.trans (.new n),.refl _,fun _ _ e=>.inl e⟩
def c7 (H0 Hs H:Hp):R→V→Prop
 | .sh d,v=>Rep Hs d v
 | .fr ds,v=>∃ a vs,v=.ref a∧H0 a=none∧Hs a=none∧H a=some (.lst vs)∧au Hs ds vs
 | .bw ds,v=>∃ a vs,v=.ref a∧H a=some (.lst vs)∧au Hs ds vs
def View (Hs H:Hp) (d:D) (v:V):Prop:=Rep Hs d v∨∃ ds a vs,d=.lst ds∧v=.ref a∧H a=some (.lst vs)∧au Hs ds vs
theorem fW {K:PySem.W.Frag} {H H':Hp} {a:Addr} {xs:List V} (s:aG H H') (h:SqL K H a xs):SqL K H' a xs:=by
 rcases h with (h | ⟨o,h⟩) | h
 ·
  exact .inl (.inl (s _ _ h))
 ·
  exact .inl (.inr ⟨o,s _ _ h⟩)
 ·
  exact .inr h
def eL (Hs H:Hp):E→V→Prop
 | .sh d,v=>Rep Hs d v
 | .ow ds,v=>∃ a vs,v=.ref a∧Hs a=none∧H a=some (.lst vs)∧au Hs ds vs
 | .ob a C fs,v=>v=.ref a∧∃ dx fvs,Hs a=none∧Hs dx=none∧H a=some (.ins C dx fvs)∧H dx=some (.own a)∧dD Hs fs fvs
 | .nw d,v=>∃ L,Own H d v L∧∀ a∈L,Hs a=none
 | .on b d,v=>v=.ref b∧∃ L,Own H d v L∧∀ a∈L,Hs a=none
 | .scr K ns,v=>∃ a,v=.ref a∧SqL K Hs a (ns.map V.int)
def eE (Hs H:Hp) (δ:DSt) (σ:St):Prop:=∀ (i:Nat) (e:E),δ[i]?=some (some e)→∃ v,σ[i]?=some (some v)∧eL Hs H e v
section
variable {H0 H Hs Hs' H':Hp}
theorem c7.mono (w:Wd H Hs Hs' H') {r:R} {v:V} (h:c7 H0 Hs H r v):c7 H0 Hs' H' r v:=by
 cases r with
 | sh d=>exact Rep.mono w.base d h
 | fr ds=>
  obtain ⟨a,vs,e,n,m,h1,h2⟩:=h
  exact ⟨a,vs,e,n,w.stay h1 m,w.keep _ _ h1,au.mono w.base ds h2⟩
 | bw ds=>
  obtain ⟨a,vs,e,h1,h2⟩:=h
  exact ⟨a,vs,e,w.keep _ _ h1,au.mono w.base ds h2⟩
theorem c7.older {H1:Hp} (k:aG H0 H1) {r:R} {v:V} (h:c7 H1 Hs H r v):c7 H0 Hs H r v:=by
 cases r with
 | sh d=>exact h
 | fr ds=>
  obtain ⟨a,vs,e,n,m,h1,h2⟩:=h
  exact ⟨a,vs,e,k.free n,m,h1,h2⟩
 | bw ds=>exact h
theorem c7.view {r:R} {v:V} (h:c7 H0 Hs H r v):View Hs H r.view v:=by
 cases r with
 | sh d=>exact .inl h
 | fr ds=>
  obtain ⟨a,vs,e,n,m,h1,h2⟩:=h
  exact .inr ⟨ds,a,vs,rfl,e,h1,h2⟩
 | bw ds=>
  obtain ⟨a,vs,e,h1,h2⟩:=h
  exact .inr ⟨ds,a,vs,rfl,e,h1,h2⟩
theorem View.lst (s:aG Hs H) {ds:List D} {v:V} (h:View Hs H (.lst ds) v):∃ a vs,v=.ref a∧H a=some (.lst vs)∧au Hs ds vs:=by
 rcases h with h | ⟨ds',a,vs,e,e2,h1,h2⟩
 ·
  unfold Rep at h
  obtain ⟨a,vs,e,h1,h2⟩:=h
  exact ⟨a,vs,e,s _ _ h1,h2⟩
 ·
  cases e
  exact ⟨a,vs,e2,h1,h2⟩
theorem View.tup (s:aG Hs H) {ds:List D} {v:V} (h:View Hs H (.tup ds) v):∃ a vs,v=.ref a∧H a=some (.tup vs)∧au Hs ds vs:=by
 rcases h with h | ⟨ds',a,vs,e,e2,h1,h2⟩
 ·
  unfold Rep at h
  obtain ⟨a,vs,e,h1,h2⟩:=h
  exact ⟨a,vs,e,s _ _ h1,h2⟩
 ·
  cases e
theorem View.obj (s:aG Hs H) {C:Addr} {fs:List (Str×D)} {v:V} (h:View Hs H (.obj C fs) v):∃ a dx fvs,v=.ref a∧H a=some (.ins C dx fvs)∧dD Hs fs fvs:=by
 rcases h with h | ⟨ds',a,vs,e,e2,h1,h2⟩
 ·
  unfold Rep at h
  obtain ⟨a,dx,vs,e,h1,h2⟩:=h
  exact ⟨a,dx,vs,e,s _ _ h1,h2⟩
 ·
  cases e
theorem View.int {i:Int} {v:V} (h:View Hs H (.int i) v):v=.int i:=by
 rcases h with h | ⟨_,_,_,e,_⟩
 ·
  unfold Rep at h;exact h
 ·
  cases e
theorem View.bl {b:Bool} {v:V} (h:View Hs H (.bl b) v):v=.bl b:=by
 rcases h with h | ⟨_,_,_,e,_⟩
 ·
  unfold Rep at h;exact h
 ·
  cases e
theorem View.str {x:Str} {v:V} (h:View Hs H (.str x) v):v=.str x:=by
 rcases h with h | ⟨_,_,_,e,_⟩
 ·
  unfold Rep at h;exact h
 ·
  cases e
theorem View.non {v:V} (h:View Hs H .non v):v=.non:=by
 rcases h with h | ⟨_,_,_,e,_⟩
 ·
  unfold Rep at h;exact h
 ·
  cases e
theorem eL.mono (w:Wd H Hs Hs' H') {e:E} {v:V} (h:eL Hs H e v):eL Hs' H' e v:=by
 cases e with
 | sh d=>exact Rep.mono w.base d h
 | ow ds=>
  obtain ⟨a,vs,e,m,h1,h2⟩:=h
  exact ⟨a,vs,e,w.stay h1 m,w.keep _ _ h1,au.mono w.base ds h2⟩
 | ob a C fs=>
  obtain ⟨e,dx,fvs,m,m2,h1,h3,h2⟩:=h
  exact ⟨e,dx,fvs,w.stay h1 m,w.stay h3 m2,w.keep _ _ h1,w.keep _ _ h3,dD.mono w.base fs h2⟩
 | nw d=>
  obtain ⟨L,h1,h2⟩:=h
  exact ⟨L,h1.mono w.keep,fun a ha=>by
   obtain ⟨o,ho⟩:=Own.cell d h1 a ha
   exact w.stay ho (h2 a ha)⟩
 | on b d=>
  obtain ⟨e,L,h1,h2⟩:=h
  exact ⟨e,L,h1.mono w.keep,fun a ha=>by
   obtain ⟨o,ho⟩:=Own.cell d h1 a ha
   exact w.stay ho (h2 a ha)⟩
 | scr K ns=>
  obtain ⟨a,e,h1⟩:=h
  exact ⟨a,e,fW w.base h1⟩
theorem eE.mono (w:Wd H Hs Hs' H') {δ:DSt} {σ:St} (h:eE Hs H δ σ):eE Hs' H' δ σ:=fun i e q=>by
 obtain ⟨v,h1,h2⟩:=h i e q
 exact ⟨v,h1,h2.mono w⟩
theorem c7.freeze (s:aG Hs H) {r:R} {v:V} (hb:∀ ds,r≠.bw ds) (h:c7 H0 Hs H r v):∃ Hs1,Rep Hs1 r.view v∧aG Hs1 H∧aG Hs Hs1∧∀ a o,Hs1 a=some o→Hs a=some o∨H0 a=none:=by
 cases r with
 | sh d=>exact ⟨Hs,h,s,.refl _,fun _ _ e=>.inl e⟩
 | fr ds=>
  obtain ⟨a,vs,e,n,m,h1,h2⟩:=h
  refine ⟨L2.upd Hs a (.lst vs),?_,fun b o q=>?_,.new m,fun b o q=>?_⟩
  ·
   show Rep _ (.lst ds) v
   unfold Rep
   exact ⟨a,vs,e,aA,au.mono (.new m) ds h2⟩
  ·
   by_cases hb:b=a
   ·
    subst hb;rw [aA] at q;cases q;exact h1
   ·
    rw [aB hb] at q;exact s _ _ q
  ·
   by_cases hb:b=a
   ·
    subst hb;exact .inr n
   ·
    rw [aB hb] at q;exact .inl q
 | bw ds=>exact absurd rfl (hb ds)
theorem c7.share {H0:Hp} (w:Wd H0 Hs Hs' H') {r:R} {v:V} (hb:∀ ds,r≠.bw ds) (h:c7 H0 Hs' H' r v):∃ Hs1,Rep Hs1 r.view v∧Wd H0 Hs Hs1 H':=by
 obtain ⟨Hs1,h1,h2,h3,h4⟩:=h.freeze w.sub hb
 exact ⟨Hs1,h1,w.keep,h2,w.base.trans h3,fun a o e=>by
  rcases h4 a o e with q | q
  ·
   exact w.new a o q
  ·
   exact .inr q⟩
end
abbrev FE:=DSt→Option R
def tD (f:FE):TE:=fun σ H Q=>∃ Hs δ r,aG Hs H∧eE Hs H δ σ∧f δ=some r∧∀ v Hs' H',Wd H Hs Hs' H'→c7 H Hs' H' r v→Q v H'
structure DE (X:Cx) (e:Expr) (f:FE):Prop where
 go:PE X e (tD f)
def tDT (f:DSt→Option Bool):TT:=fun σ H Q=>∃ Hs δ b,aG Hs H∧eE Hs H δ σ∧f δ=some b∧∀ Hs' H',Wd H Hs Hs' H'→Q b H'
structure DT (X:Cx) (e:Expr) (f:DSt→Option Bool):Prop where
 go:PT X e (tDT f)
structure DW (X:Cx) (e:Expr) (f:DSt→Option Bool):Prop where
 go:PW X e (tDT f)
def dw (H0 Hs H:Hp):List R→List V→Prop
 | [],vs=>vs=[]
 | r::rs,vs=>∃ v t,vs=v::t∧c7 H0 Hs H r v∧dw H0 Hs H rs t
def tDA (f:DSt→Option (List R)):TA:=fun σ H Q=>∃ Hs δ rs,aG Hs H∧eE Hs H δ σ∧f δ=some rs∧∀ vs Hs' H',Wd H Hs Hs' H'→dw H Hs' H' rs vs→Q vs H'
structure DA (X:Cx) (es:List Expr) (f:DSt→Option (List R)):Prop where
 go:PA X es (tDA f)
def ab (i:Nat):FE:=fun δ=>match δ[i]? with
 | some (some (.sh d))=>some (.sh d)
 | some (some (.ow ds))=>some (.bw ds)
 | _=>none
def ac (d:D):FE:=fun _=>some (.sh d)
def ad (o:D→D→Option R) (fa fb:FE):FE:=fun δ=>(fa δ).bind fun a=>(fb δ).bind fun b=>o a.view b.view
def dun (o:D→Option R) (fa:FE):FE:=fun δ=>(fa δ).bind fun a=>o a.view
section
variable {X:Cx} {a b c e:Expr} {fa fb fc f:FE} {pos:Pos}
theorem de_var {i:Nat} {x:Str} (h:PE X (.Name x pos) (eX i)):DE X (.Name x pos) (ab i):=.mk <| h.weak fun σ H Q ⟨Hs,δ,r,S,En,e,K⟩=>by
 unfold ab at e
 cases q:δ[i]? with
 | none=>rw [q] at e;cases e
 | some o=>
  cases o with
  | none=>rw [q] at e;cases e
  | some en=>
   rw [q] at e
   obtain ⟨v,hv,hr⟩:=En i en q
   refine ⟨v,hv,K v Hs H (.refl S) ?_⟩
   cases en with
   | sh d=>cases e;exact hr
   | ow ds=>
    cases e
    obtain ⟨a,vs,e1,_,h1,h2⟩:=hr
    exact ⟨a,vs,e1,h1,h2⟩
   | ob a C fs=>cases e
   | nw d=>cases e
   | on b d=>cases e
   | scr K ns=>cases e
theorem mh {d:D} {v:V} (h:PE X e (tC v)) (r:∀ H,Rep H d v):DE X e (ac d):=.mk <| h.weak fun σ H Q ⟨Hs,δ,r',S,En,e,K⟩=>by
 cases e
 exact K v Hs H (.refl S) (r Hs)
def rD (o:D→D→Option R):R2:=fun x y H Q=>∃ Hs d1 d2 r,aG Hs H∧View Hs H d1 x∧View Hs H d2 y∧o d1 d2=some r∧∀ v Hs' H',Wd H Hs Hs' H'→c7 H Hs' H' r v→Q v H'
def rD1 (o:D→Option R):V→Hp→VK→Prop:=fun x H Q=>∃ Hs d r,aG Hs H∧View Hs H d x∧o d=some r∧∀ v Hs' H',Wd H Hs Hs' H'→c7 H Hs' H' r v→Q v H'
theorem mi {o:D→D→Option R} {σ:St} {H:Hp} {Q:VK} (h:tD (ad o fa fb) σ H Q):tOp (rD o) (tD fa) (tD fb) σ H Q:=by
 obtain ⟨Hs,δ,r,S,En,e,K⟩:=h
 unfold ad at e
 cases ea:fa δ with
 | none=>rw [ea] at e;cases e
 | some ra=>
  cases eb:fb δ with
  | none=>rw [ea,eb] at e;cases e
  | some rb=>
   rw [ea,eb] at e
   refine ⟨Hs,δ,ra,S,En,ea,fun x Hs1 H1 W1 R1=>⟨Hs1,δ,rb,W1.sub,En.mono W1,eb,fun y Hs2 H2 W2 R2=>?_⟩⟩
   refine ⟨Hs2,ra.view,rb.view,r,W2.sub,(R1.mono W2).view,R2.view,e,fun v Hs3 H3 W3 R3=>?_⟩
   exact K v Hs3 H3 (W1.trans (W2.trans W3)) (R3.older (W1.keep.trans W2.keep))
theorem bg {op:Operator} {o:D→D→Option R} (ho:OpR X (binaryOp op) (rD o)) (ha:DE X a fa) (hb:DE X b fb):DE X (.BinOp a op b pos) (ad o fa fb):=.mk <| (pe_op ho ha.go hb.go).weak fun _ _ _=>mi
theorem de_cmp {op:CmpOp} {o:D→D→Option R} (ho:OpR X (compareOp op) (rD o)) (ha:DE X a fa) (hb:DE X b fb) (hm:behindInMarks op b=false):DE X (.Compare a [op] [b] pos) (ad o fa fb):=.mk <| (pe_cmpR ho ha.go hb.go hm).weak fun _ _ _=>mi
theorem de_ix {o:D→D→Option R} (ho:IxR X (rD o)) (ha:DE X a fa) (hb:DE X b fb) (hs:jS b):DE X (.Subscript a b pos) (ad o fa fb):=.mk <| (pe_ix ho ha.go hb.go hs).weak fun _ _ _=>mi
def R.bool:R→Option Bool
 | .sh (.bl b)=>some b
 | _=>none
def aj (f:FE):DSt→Option Bool:=fun δ=>(f δ).bind R.bool
theorem mj {σ:St} {H:Hp} {Q:Bool→Hp→Prop} (h:tDT (aj f) σ H Q):tTest (tD f) σ H Q:=by
 obtain ⟨Hs,δ,b,S,En,e,K⟩:=h
 unfold aj at e
 cases ea:f δ with
 | none=>rw [ea] at e;cases e
 | some ra=>
  rw [ea] at e
  refine ⟨Hs,δ,ra,S,En,ea,fun x Hs1 H1 W1 R1=>?_⟩
  cases ra with
  | sh d=>
   cases d with
   | bl c=>
    cases e
    have R1:Rep Hs1 (.bl b) x:=R1
    unfold Rep at R1
    exact ⟨b,R1,K Hs1 H1 W1⟩
   | _=>cases e
  | _=>cases e
theorem ki {op:CmpOp} {o:D→D→Option R} (ho:OpR X (compareOp op) (rD o)) (ha:DE X a fa) (hb:DE X b fb) (hm:behindInMarks op b=false):DT X (.Compare a [op] [b] pos) (aj (ad o fa fb)):=.mk <|
 (pt_cmpR ho ha.go hb.go hm).weak fun σ H Q h=>by
  obtain ⟨Hs,δ,r,S,En,e,K⟩:=mj h
  exact mi ⟨Hs,δ,r,S,En,e,K⟩
theorem bL (h:DE X e f) (he:∀ whole,isTrue e X.env whole=(do let v ←whole;standAt e.pos;holding [v] (truthy v)):=by intro _;rfl):DT X e (aj f):=.mk <| (pt_val h.go he).weak fun _ _ _=>mj
def cO (o o':D→D→Option R) (fa fb fc:FE):FE:=fun δ=>(fa δ).bind fun a=>(fb δ).bind fun b=>(o a.view b.view).bind fun r=>match r with
 | .sh (.bl true)=>(fc δ).bind fun c=>o' b.view c.view
 | .sh (.bl false)=>some (.sh (.bl false))
 | _=>none
theorem tD_chain {o o':D→D→Option R} {σ:St} {H:Hp} {Q:VK} (h:tD (cO o o' fa fb fc) σ H Q):tChain (rD o) (rD o') (tD fa) (tD fb) (tD fc) σ H Q:=by
 obtain ⟨Hs,δ,r,S,En,e,K⟩:=h
 unfold cO at e
 cases ea:fa δ with
 | none=>rw [ea] at e;cases e
 | some ra=>
  cases eb:fb δ with
  | none=>rw [ea,eb] at e;cases e
  | some rb=>
   rw [ea,eb] at e
   replace e:((o ra.view rb.view).bind fun r=>match r with
    | .sh (.bl true)=>(fc δ).bind fun c=>o' rb.view c.view
    | .sh (.bl false)=>some (R.sh (.bl false))
    | _=>none)=some r:=e
   cases eo:o ra.view rb.view with
   | none=>rw [eo] at e;cases e
   | some ro=>
    rw [eo] at e
    refine ⟨Hs,δ,ra,S,En,ea,fun x Hs1 H1 W1 R1=>⟨Hs1,δ,rb,W1.sub,En.mono W1,eb,fun y Hs2 H2 W2 R2=>?_⟩⟩
    refine ⟨Hs2,ra.view,rb.view,ro,W2.sub,(R1.mono W2).view,R2.view,eo,fun v Hs3 H3 W3 R3=>?_⟩
    cases ro with
    | sh d=>
     cases d with
     | bl k=>
      have R3:Rep Hs3 (.bl k) v:=R3
      unfold Rep at R3
      refine ⟨k,R3,?_⟩
      cases k with
      | true=>
       replace e:((fc δ).bind fun c=>o' rb.view c.view)=some r:=e
       cases ec:fc δ with
       | none=>rw [ec] at e;cases e
       | some rc=>
        rw [ec] at e
        rw [if_pos rfl]
        have W12:=W1.trans (W2.trans W3)
        refine ⟨Hs3,δ,rc,W3.sub,En.mono W12,ec,fun z Hs4 H4 W4 R4=>?_⟩
        refine ⟨Hs4,rb.view,rc.view,r,W4.sub,((R2.mono W3).mono W4).view,R4.view,e,fun v Hs5 H5 W5 R5=>?_⟩
        exact K v Hs5 H5 (W12.trans (W4.trans W5)) (R5.older (W12.keep.trans W4.keep))
      | false=>
       cases e
       rw [if_neg Bool.false_ne_true]
       exact K _ Hs3 H3 (W1.trans (W2.trans W3)) (by show Rep Hs3 (.bl false) _;unfold Rep;rfl)
     | _=>cases e
    | _=>cases e
theorem hX {op op':CmpOp} {o o':D→D→Option R} (ho:OpR X (compareOp op) (rD o)) (ho':OpR X (compareOp op') (rD o')) (ha:DE X a fa) (hb:DE X b fb) (hc:DE X c fc)
  (hm:lastMarks [op,op'] [b,c]=false:=by with_unfolding_all rfl):DT X (.Compare a [op,op'] [b,c] pos) (aj (cO o o' fa fb fc)):=.mk <|
 (pt_chain ho ho' ha.go hb.go hc.go hm).weak fun σ H Q h=>by
  obtain ⟨Hs,δ,r,S,En,e,K⟩:=mj h
  exact tD_chain ⟨Hs,δ,r,S,En,e,K⟩
def dW (f g:DSt→Option Bool):DSt→Option Bool:=fun δ=>(f δ).bind fun c=>if c=true then g δ else some false
def cq (f g:DSt→Option Bool):DSt→Option Bool:=fun δ=>(f δ).bind fun c=>if c=true then some true else g δ
def bh (f:DSt→Option Bool):DSt→Option Bool:=fun δ=>(f δ).map (!·)
variable {tf tg:DSt→Option Bool} {rest:List Expr}
theorem dw_and1 (ha:DT X a tf):DW X (.BoolOp .And [a] pos) tf:=.mk <| pw_and1 ha.go
theorem dw_or1 (ha:DT X a tf):DW X (.BoolOp .Or [a] pos) tf:=.mk <| pw_or1 ha.go
theorem dw_and (ha:DT X a tf) (hb:DW X (.BoolOp .And (b::rest) pos) tg):DW X (.BoolOp .And (a::b::rest) pos) (dW tf tg):=.mk <| (pw_and ha.go hb.go).weak fun σ H Q h=>by
 obtain ⟨Hs,δ,r,S,En,e,K⟩:=h
 unfold dW at e
 cases ea:tf δ with
 | none=>rw [ea] at e;cases e
 | some k=>
  rw [ea] at e
  refine ⟨Hs,δ,k,S,En,ea,fun Hs1 H1 W1=>?_⟩
  cases k with
  | true=>
   rw [if_pos rfl]
   exact ⟨Hs1,δ,r,W1.sub,En.mono W1,e,fun Hs2 H2 W2=>K Hs2 H2 (W1.trans W2)⟩
  | false=>cases e;rw [if_neg Bool.false_ne_true];exact K Hs1 H1 W1
theorem dw_or (ha:DT X a tf) (hb:DW X (.BoolOp .Or (b::rest) pos) tg):DW X (.BoolOp .Or (a::b::rest) pos) (cq tf tg):=.mk <| (pw_or ha.go hb.go).weak fun σ H Q h=>by
 obtain ⟨Hs,δ,r,S,En,e,K⟩:=h
 unfold cq at e
 cases ea:tf δ with
 | none=>rw [ea] at e;cases e
 | some k=>
  rw [ea] at e
  refine ⟨Hs,δ,k,S,En,ea,fun Hs1 H1 W1=>?_⟩
  cases k with
  | true=>cases e;rw [if_pos rfl];exact K Hs1 H1 W1
  | false=>
   rw [if_neg Bool.false_ne_true]
   exact ⟨Hs1,δ,r,W1.sub,En.mono W1,e,fun Hs2 H2 W2=>K Hs2 H2 (W1.trans W2)⟩
theorem DW.dt (h:DW X e tf):DT X e tf:=.mk <| PW.pt h.go
theorem bV (ha:DT X a tf):DT X (.UnaryOp .Not a pos) (bh tf):=.mk <| (pt_not ha.go).weak fun σ H Q h=>by
 obtain ⟨Hs,δ,r,S,En,e,K⟩:=h
 unfold bh at e
 cases ea:tf δ with
 | none=>rw [ea] at e;cases e
 | some k=>
  rw [ea] at e
  cases e
  exact ⟨Hs,δ,k,S,En,ea,fun Hs1 H1 W1=>K Hs1 H1 W1⟩
def dand (fa fb:FE):FE:=fun δ=>(fa δ).bind fun r=>match r with
 | .sh (.bl true)=>fb δ
 | .sh (.bl false)=>some (.sh (.bl false))
 | _=>none
def dor (fa fb:FE):FE:=fun δ=>(fa δ).bind fun r=>match r with
 | .sh (.bl true)=>some (.sh (.bl true))
 | .sh (.bl false)=>fb δ
 | _=>none
def dnot (fa:FE):FE:=fun δ=>(fa δ).bind fun r=>match r with
 | .sh (.bl b)=>some (.sh (.bl (!b)))
 | _=>none
theorem shB (H0 Hs H:Hp) (b:Bool):c7 H0 Hs H (.sh (.bl b)) (.bl b):=by show Rep Hs (.bl b) (.bl b);unfold Rep;rfl
theorem shI (H0 Hs H:Hp) (i:Int):c7 H0 Hs H (.sh (.int i)) (.int i):=by show Rep Hs (.int i) (.int i);unfold Rep;rfl
theorem shS (H0 Hs H:Hp) (x:Str):c7 H0 Hs H (.sh (.str x)) (.str x):=by show Rep Hs (.str x) (.str x);unfold Rep;rfl
theorem unB {H0 Hs H:Hp} {b:Bool} {v:V} (h:c7 H0 Hs H (.sh (.bl b)) v):v=.bl b:=by have h:Rep Hs (.bl b) v:=h;unfold Rep at h;exact h
theorem de_one {op} (h:DE X a fa):DE X (.BoolOp op [a] pos) fa:=.mk <| pe_one h.go
theorem ml (ha:DE X a fa) (hb:DE X (.BoolOp .And (b::rest) pos) fb):DE X (.BoolOp .And (a::b::rest) pos) (dand fa fb):=.mk <| (pe_and ha.go hb.go).weak fun σ H Q h=>by
 obtain ⟨Hs,δ,r,S,En,e,K⟩:=h
 unfold dand at e
 cases ea:fa δ with
 | none=>rw [ea] at e;cases e
 | some k=>
  rw [ea] at e
  refine ⟨Hs,δ,k,S,En,ea,fun x Hs1 H1 W1 R1=>?_⟩
  match k,e,R1 with
  | .sh (.bl true),e,R1=>
   refine ⟨true,unB R1,?_⟩
   rw [if_pos rfl]
   exact ⟨Hs1,δ,r,W1.sub,En.mono W1,e,fun v Hs2 H2 W2 R2=>K v Hs2 H2 (W1.trans W2) (R2.older W1.keep)⟩
  | .sh (.bl false),e,R1=>
   cases e
   refine ⟨false,unB R1,?_⟩
   rw [if_neg Bool.false_ne_true]
   exact K _ Hs1 H1 W1 (shB _ _ _ _)
theorem de_not (ha:DE X a fa):DE X (.UnaryOp .Not a pos) (dnot fa):=.mk <| (pe_not ha.go).weak fun σ H Q h=>by
 obtain ⟨Hs,δ,r,S,En,e,K⟩:=h
 unfold dnot at e
 cases ea:fa δ with
 | none=>rw [ea] at e;cases e
 | some k=>
  rw [ea] at e
  refine ⟨Hs,δ,k,S,En,ea,fun x Hs1 H1 W1 R1=>?_⟩
  match k,e,R1 with
  | .sh (.bl k),e,R1=>
   cases e
   exact ⟨k,unB R1,K _ Hs1 H1 W1 (shB _ _ _ _)⟩
def dif (t:DSt→Option Bool) (fa fb:FE):FE:=fun δ=>(t δ).bind fun k=>if k=true then fa δ else fb δ
theorem ni {c:Expr} (hc:DT X c tf) (ha:DE X a fa) (hb:DE X b fb):DE X (.IfExp c a b pos) (dif tf fa fb):=.mk <| (gZ hc.go ha.go hb.go).weak fun σ H Q h=>by
 obtain ⟨Hs,δ,r,S,En,e,K⟩:=h
 unfold dif at e
 cases ea:tf δ with
 | none=>rw [ea] at e;cases e
 | some k=>
  rw [ea] at e
  refine ⟨Hs,δ,k,S,En,ea,fun Hs1 H1 W1=>?_⟩
  cases k with
  | true=>
   rw [if_pos rfl]
   exact ⟨Hs1,δ,r,W1.sub,En.mono W1,e,fun v Hs2 H2 W2 R2=>K v Hs2 H2 (W1.trans W2) (R2.older W1.keep)⟩
  | false=>
   rw [if_neg Bool.false_ne_true]
   exact ⟨Hs1,δ,r,W1.sub,En.mono W1,e,fun v Hs2 H2 W2 R2=>K v Hs2 H2 (W1.trans W2) (R2.older W1.keep)⟩
end
end Ew
end
section
set_option Elab.async false
set_option linter.all false
set_option maxRecDepth 100000
namespace Ew
open PySem PySem.Spec L2
def big:Nat:=100000
theorem bP {n:Nat} (h:n≤big):n<sizeLine:=Nat.lt_of_le_of_lt h (by rw [PySem.sizeLine_eq];decide)
def noStar:Expr→Bool
 | .Starred _ _=>false
 | _=>true
theorem bF {e:Expr} (h:noStar e=true) {es:List Expr} {env:Env}:starEach (e::es) env=(false,eval e env)::starEach es env:=by
 cases e <;> first | rfl | cases h
def af:DSt→Option (List R):=fun _=>some []
def aa (fa:FE) (fr:DSt→Option (List R)):DSt→Option (List R):=fun δ=>(fa δ).bind fun r=>(fr δ).bind fun rs=>some (r::rs)
theorem dw.mono {H0 H Hs Hs' H':Hp} (w:Wd H Hs Hs' H'):∀ {rs:List R} {vs:List V},dw H0 Hs H rs vs→dw H0 Hs' H' rs vs
 | [],_,h=>h
 | r::rs,_,⟨v,t,e,h1,h2⟩=>⟨v,t,e,h1.mono w,dw.mono w h2⟩
theorem dw.older {H0 H1 H Hs:Hp} (k:aG H0 H1):∀ {rs:List R} {vs:List V},dw H1 Hs H rs vs→dw H0 Hs H rs vs
 | [],_,h=>h
 | r::rs,_,⟨v,t,e,h1,h2⟩=>⟨v,t,e,h1.older k,dw.older k h2⟩
section
variable {X:Cx} {e:Expr} {es:List Expr} {fa:FE} {fr:DSt→Option (List R)} {pos:Pos}
theorem iO:DA X [] af:=.mk <| eZ.weak fun σ H Q ⟨Hs,δ,r,S,En,e,K⟩=>by
 cases e
 exact K [] Hs H (.refl S) rfl
theorem ah (ha:DE X e fa) (hr:DA X es fr) (hs:starEach (e::es) X.env=(false,eval e X.env)::starEach es X.env:=by exact bF rfl):DA X (e::es) (aa fa fr):=
 .mk <| (cz ha.go hr.go hs).weak fun σ H Q ⟨Hs,δ,r,S,En,e,K⟩=>by
  unfold aa at e
  cases ea:fa δ with
  | none=>rw [ea] at e;cases e
  | some ra=>
   cases eb:fr δ with
   | none=>rw [ea,eb] at e;cases e
   | some rb=>
    rw [ea,eb] at e
    cases e
    refine ⟨Hs,δ,ra,S,En,ea,fun x Hs1 H1 W1 R1=>⟨Hs1,δ,rb,W1.sub,En.mono W1,eb,fun vs Hs2 H2 W2 R2=>?_⟩⟩
    exact K (x::vs) Hs2 H2 (W1.trans W2) ⟨x,vs,rfl,R1.mono W2,R2.older W1.keep⟩
end
def R.isBw:R→Bool
 | .bw _=>true
 | _=>false
theorem dw.freeze {H0 H:Hp}:∀ {rs:List R} {vs:List V} {Hs:Hp},aG Hs H→dw H0 Hs H rs vs→∃ Hs1,au Hs1 (rs.map R.view) vs∧aG Hs1 H∧aG Hs Hs1∧
  ((∀ r∈rs,r.isBw=false)→∀ a o,Hs1 a=some o→Hs a=some o∨H0 a=none):=by
 have one:∀ {r:R} {v:V} {Hs:Hp},aG Hs H→View Hs H r.view v→(r.isBw=false→(∃ d,r=.sh d∧Rep Hs d v)∨∃ a,v=.ref a∧H0 a=none)→
   ∃ Hs1,Rep Hs1 r.view v∧aG Hs1 H∧aG Hs Hs1∧(r.isBw=false→∀ a o,Hs1 a=some o→Hs a=some o∨H0 a=none):=by
  intro r v Hs S vw new
  rcases vw with h | ⟨ds,a,vs,e1,e2,h1,h2⟩
  ·
   exact ⟨Hs,h,S,.refl _,fun _ _ _ e=>.inl e⟩
  ·
   have sub:aG Hs (L2.upd Hs a (.lst vs)):=fun b o q=>by
    by_cases hb:b=a
    ·
     subst hb;rw [S _ _ q] at h1;cases h1;exact aA
    ·
     rw [aB hb];exact q
   refine ⟨L2.upd Hs a (.lst vs),?_,fun b o q=>?_,sub,fun hb b o q=>?_⟩
   ·
    rw [e1];unfold Rep;exact ⟨a,vs,e2,aA,au.mono sub ds h2⟩
   ·
    by_cases hb:b=a
    ·
     subst hb;rw [aA] at q;cases q;exact h1
    ·
     rw [aB hb] at q;exact S _ _ q
   ·
    by_cases hba:b=a
    ·
     subst hba
     rcases new hb with ⟨d,ed,hd⟩ | ⟨a',ea,na⟩
     ·
      subst ed
      have e1:d=.lst ds:=e1
      subst e1
      unfold Rep at hd
      obtain ⟨a',vs',e3,h3,_⟩:=hd
      rw [e2] at e3;cases e3
      rw [S _ _ h3] at h1;cases h1
      rw [aA] at q;cases q
      exact .inl h3
     ·
      rw [e2] at ea;cases ea;exact .inr na
    ·
     rw [aB hba] at q;exact .inl q
 intro rs
 induction rs with
 | nil=>intro vs Hs S h;exact ⟨Hs,by rw [show vs=[] from h];exact .nil,S,.refl _,fun _ _ _ e=>.inl e⟩
 | cons r rs ih=>
  intro vs Hs S h
  obtain ⟨v,t,rfl,h1,h2⟩:=h
  obtain ⟨Hs1,q1,q2,q3,q4⟩:=ih S h2
  have vw:View Hs1 H r.view v:=by
   rcases h1.view with z | ⟨ds,a,vs,e1,e2,z1,z2⟩
   ·
    exact .inl (Rep.mono q3 _ z)
   ·
    exact .inr ⟨ds,a,vs,e1,e2,z1,au.mono q3 _ z2⟩
  obtain ⟨Hs2,p1,p2,p3,p4⟩:=one (r:=r) q2 vw fun hb=>by
   cases r with
   | sh d=>exact .inl ⟨d,rfl,Rep.mono q3 _ h1⟩
   | fr ds=>obtain ⟨a,vs,e,n,_⟩:=h1;exact .inr ⟨a,e,n⟩
   | bw ds=>cases hb
  refine ⟨Hs2,.cons p1 (au.mono p3 _ q1),p2,q3.trans p3,fun hb a o e=>?_⟩
  rcases p4 (hb r List.mem_cons_self) a o e with z | z
  ·
   exact q4 (fun r' hr'=>hb r' (List.mem_cons_of_mem _ hr')) a o z
  ·
   exact .inr z
def cW (rs:List R):Bool:=rs.all fun r=>!r.isBw
theorem hZ {rs:List R} (h:cW rs=true):∀ r∈rs,r.isBw=false:=fun r hr=>by
 have:=List.all_eq_true.mp h r hr
 simpa using this
def cf (fa:DSt→Option (List R)):FE:=fun δ=>(fa δ).bind fun rs=>if cW rs=true∧rs.length≤big then some (.fr (rs.map R.view)) else none
def cg (fa:DSt→Option (List R)):FE:=fun δ=>(fa δ).bind fun rs=>if cW rs=true∧rs.length≤big then some (.sh (.tup (rs.map R.view))) else none
theorem dw.length {H0 Hs H:Hp}:∀ {rs:List R} {vs:List V},dw H0 Hs H rs vs→vs.length=rs.length
 | [],_,h=>by rw [show _=_ from h];rfl
 | r::rs,_,⟨v,t,e,h1,h2⟩=>by rw [e];simp [dw.length h2]
section
variable {X:Cx} {e:Expr} {es:List Expr} {fa:FE} {fr:DSt→Option (List R)} {pos:Pos}
theorem bN (h:DA X es fr):DE X (.List es pos) (cf fr):=.mk <| (pe_lst h.go).weak fun σ H Q ⟨Hs,δ,r,S,En,e,K⟩=>by
 unfold cf at e
 cases ea:fr δ with
 | none=>rw [ea] at e;cases e
 | some rs=>
  rw [ea] at e
  by_cases hc:cW rs=true∧rs.length≤big
  ·
   replace e:(if cW rs=true∧rs.length≤big then some (R.fr (rs.map R.view)) else none)=some r:=e
   rw [if_pos hc] at e
   cases e
   refine ⟨Hs,δ,rs,S,En,ea,fun vs Hs1 H1 W1 R1=>⟨?_,fun p hp=>?_⟩⟩
   ·
    rw [R1.length];exact Nat.le_of_lt (bP hc.2)
   ·
    obtain ⟨Hs2,q1,q2,q3,q4⟩:=R1.freeze W1.sub
    have W2:Wd H Hs Hs2 H1:=⟨W1.keep,q2,W1.base.trans q3,fun a o e=>by
     rcases q4 (hZ hc.1) a o e with z | z
     ·
      exact W1.new a o z
     ·
      exact .inr z⟩
    exact K _ Hs2 _ (W2.trans (.fresh q2 hp)) ⟨p,vs,rfl,W1.keep.free hp,q2.free hp,aA,q1⟩
  ·
   replace e:(if cW rs=true∧rs.length≤big then some (R.fr (rs.map R.view)) else none)=some r:=e
   rw [if_neg hc] at e;cases e
theorem c8 {x1} (h:DA X es fr):DE X (.Tuple es x1 pos) (cg fr):=.mk <| (pe_tup h.go).weak fun σ H Q ⟨Hs,δ,r,S,En,e,K⟩=>by
 unfold cg at e
 cases ea:fr δ with
 | none=>rw [ea] at e;cases e
 | some rs=>
  rw [ea] at e
  by_cases hc:cW rs=true∧rs.length≤big
  ·
   replace e:(if cW rs=true∧rs.length≤big then some (R.sh (.tup (rs.map R.view))) else none)=some r:=e
   rw [if_pos hc] at e
   cases e
   refine ⟨Hs,δ,rs,S,En,ea,fun vs Hs1 H1 W1 R1=>⟨?_,fun p hp=>?_⟩⟩
   ·
    rw [R1.length];exact Nat.le_of_lt (bP hc.2)
   ·
    obtain ⟨Hs2,q1,q2,q3,q4⟩:=R1.freeze W1.sub
    have W2:Wd H Hs Hs2 H1:=⟨W1.keep,q2,W1.base.trans q3,fun a o e=>by
     rcases q4 (hZ hc.1) a o e with z | z
     ·
      exact W1.new a o z
     ·
      exact .inr z⟩
    refine K _ (L2.upd Hs2 p (.tup vs)) _ (W2.trans (.lay q2 hp)) ?_
    show Rep _ (.tup _) _
    unfold Rep
    exact ⟨p,vs,rfl,aA,au.mono (.new (q2.free hp)) _ q1⟩
  ·
   replace e:(if cW rs=true∧rs.length≤big then some (R.sh (.tup (rs.map R.view))) else none)=some r:=e
   rw [if_neg hc] at e;cases e
end
def spD (n:Nat) (m:List D→Option D):Sp:=fun vs H Q _=>∃ Hs ds d,ds.length=n∧aG Hs H∧au Hs ds vs∧m ds=some d∧∀ v Hs' H',Wd H Hs Hs' H'→Rep Hs' d v→Q v H'
theorem spD_len {n:Nat} {m:List D→Option D} {vs:List V} {H:Hp} {Q:VK} {E:XK} (h:spD n m vs H Q E):vs.length=n:=by
 obtain ⟨Hs,ds,d,e,_,r,_⟩:=h
 rw [r.length,e]
def D.flat:D→Bool
 | .non=>true
 | .bl _=>true
 | .int _=>true
 | .str _=>true
 | _=>false
theorem Rep.flat {H H':Hp} {d:D} {v:V} (f:d.flat=true) (h:Rep H d v):Rep H' d v:=by
 cases d with
 | lst _=>cases f
 | tup _=>cases f
 | obj _ _=>cases f
 | _=>unfold Rep at h ⊢;exact h
def h7 (n:Nat) (m:List D→Option D) (rs:List R):Option R:=(m (rs.map R.view)).bind fun d=>if rs.length=n∧(cW rs=true∨d.flat=true) then some (.sh d) else none
def mcallF (n:Nat) (m:List D→Option (List D)) (rs:List R):Option R:=(m (rs.map R.view)).bind fun d=>if rs.length=n∧cW rs=true then some (.fr d) else none
theorem nj {n:Nat} {m:List D→Option D} {rs:List R} {r:R} {vs:List V} {H Hs Hs1 H1:Hp} {Q:VK} {E:XK} (W1:Wd H Hs Hs1 H1) (R1:dw H Hs1 H1 rs vs) (e:h7 n m rs=some r)
  (K:∀ v Hs' H',Wd H Hs Hs' H'→c7 H Hs' H' r v→Q v H'):spD n m vs H1 Q E:=by
 unfold h7 at e
 cases em:m (rs.map R.view) with
 | none=>rw [em] at e;cases e
 | some d=>
  rw [em] at e
  replace e:(if rs.length=n∧(cW rs=true∨d.flat=true) then some (R.sh d) else none)=some r:=e
  by_cases hc:rs.length=n∧(cW rs=true∨d.flat=true)
  ·
   rw [if_pos hc] at e
   cases e
   obtain ⟨Hs2,q1,q2,q3,q4⟩:=R1.freeze W1.sub
   refine ⟨Hs2,_,d,by rw [List.length_map];exact hc.1,q2,q1,em,fun v Hs3 H3 W3 R3=>?_⟩
   rcases hc.2 with hb | hf
   ·
    have W2:Wd H Hs Hs2 H1:=⟨W1.keep,q2,W1.base.trans q3,fun a o e=>by
     rcases q4 (hZ hb) a o e with z | z
     ·
      exact W1.new a o z
     ·
      exact .inr z⟩
    exact K v Hs3 H3 (W2.trans W3) R3
   ·
    exact K v Hs1 H3 ⟨W1.keep.trans W3.keep,W1.sub.trans W3.keep,W1.base,W1.new⟩ (Rep.flat hf R3)
  ·
   rw [if_neg hc] at e;cases e
def ay (n:Nat) (m:List D→Option D) (fa:DSt→Option (List R)):FE:=fun δ=>(fa δ).bind (h7 n m)
def dcallF (n:Nat) (m:List D→Option (List D)) (fa:DSt→Option (List R)):FE:=fun δ=>(fa δ).bind (mcallF n m)
section
variable {X:Cx} {e o:Expr} {es:List Expr} {fa fo:FE} {fr:DSt→Option (List R)} {n:Nat} {m:List D→Option D} {mF:List D→Option (List D)} {E:XK}
theorem tD_call {σ:St} {H:Hp} {Q:VK} (h:tD (ay n m fr) σ H Q):tCall (spD n m) [] E (tDA fr) σ H Q:=by
 obtain ⟨Hs,δ,r,S,En,e,K⟩:=h
 unfold ay at e
 cases ea:fr δ with
 | none=>rw [ea] at e;cases e
 | some rs=>
  rw [ea] at e
  refine ⟨Hs,δ,rs,S,En,ea,fun vs Hs1 H1 W1 R1=>?_⟩
  show spD n m (vs++[]) H1 Q E
  rw [List.append_nil]
  exact nj W1 R1 e K
def bE (ok:Addr→Bool) (f:Str) (fo:FE):FE:=fun δ=>(fo δ).bind fun r=>match r.view with
 | .obj C fs=>if ok C=true then (fs.lookup f).map .sh else none
 | _=>none
theorem de_fld {ok:Addr→Bool} {f:Str} {pos:Pos} (ho:DE X o fo) (hk:∀ C,ok C=true→Cls X.K C∧NoAttr X.K C f) (hb:attributeBase o f X.env (eval o X.env)=eval o X.env:=by rfl):DE X (.Attribute o f pos) (bE ok f fo):=.mk <|
 (pe_fld ho.go hb).weak fun σ H Q ⟨Hs,δ,r,S,En,e,K⟩=>by
  unfold bE at e
  cases ea:fo δ with
  | none=>rw [ea] at e;cases e
  | some ra=>
   rw [ea] at e
   refine ⟨Hs,δ,ra,S,En,ea,fun x Hs1 H1 W1 R1=>?_⟩
   have vw:=R1.view
   replace e:(match ra.view with
    | .obj C fs=>if ok C=true then (fs.lookup f).map R.sh else none
    | _=>none)=some r:=e
   cases hv:ra.view with
   | obj C fs=>
    rw [hv] at e vw
    replace e:(if ok C=true then (fs.lookup f).map R.sh else none)=some r:=e
    by_cases hc:ok C=true
    ·
     rw [if_pos hc] at e
     cases el:fs.lookup f with
     | none=>rw [el] at e;cases e
     | some d=>
      rw [el] at e
      cases e
      obtain ⟨a,dx,fvs,e1,h1,h2⟩:=vw.obj W1.sub
      obtain ⟨v,l1,l2⟩:=h2.lookup el
      exact ⟨a,C,dx,fvs,v,e1,h1,(hk C hc).1,(hk C hc).2,l1,K v Hs1 H1 W1 l2⟩
    ·
     rw [if_neg hc] at e;cases e
   | _=>rw [hv] at e;cases e
def bH (C:Addr) (name:Str) (n:Nat) (m:List D→Option D) (fo:FE) (fa:DSt→Option (List R)):FE:=fun δ=>(fo δ).bind fun r=>match r.view with
 | .obj C' fs=>if C'=C∧fs.lookup name=none then (fa δ).bind fun rs=>h7 n m (r::rs) else none
 | _=>none
theorem tD_meth {C:Addr} {name:Str} {σ:St} {H:Hp} {Q:VK} (h:tD (bH C name n m fo fr) σ H Q):tMeth C name (spD n m) [] E (tD fo) (tDA fr) σ H Q:=by
 obtain ⟨Hs,δ,r,S,En,e,K⟩:=h
 unfold bH at e
 cases ea:fo δ with
 | none=>rw [ea] at e;cases e
 | some ra=>
  rw [ea] at e
  refine ⟨Hs,δ,ra,S,En,ea,fun x Hs1 H1 W1 R1=>?_⟩
  have vw:=R1.view
  replace e:(match ra.view with
   | .obj C' fs=>if C'=C∧fs.lookup name=none then (fr δ).bind fun rs=>h7 n m (ra::rs) else none
   | _=>none)=some r:=e
  cases hv:ra.view with
  | obj C' fs=>
   rw [hv] at e vw
   replace e:(if C'=C∧fs.lookup name=none then (fr δ).bind fun rs=>h7 n m (ra::rs) else none)=some r:=e
   by_cases hc:C'=C∧fs.lookup name=none
   ·
    rw [if_pos hc] at e
    obtain ⟨hC,hn⟩:=hc
    subst hC
    obtain ⟨a,dx,fvs,e1,h1,h2⟩:=vw.obj W1.sub
    refine ⟨a,dx,fvs,e1,h1,h2.none hn,?_⟩
    cases eb:fr δ with
    | none=>rw [eb] at e;cases e
    | some rs=>
     rw [eb] at e
     refine ⟨Hs1,δ,rs,W1.sub,En.mono W1,eb,fun vs Hs2 H2 W2 R2=>?_⟩
     show spD n m (x::(vs++[])) H2 Q E
     rw [List.append_nil]
     exact nj (rs:=ra::rs) (W1.trans W2) (show dw H Hs2 H2 (ra::rs) (x::vs) from ⟨x,vs,rfl,R1.mono W2,R2.older W1.keep⟩) e K
   ·
    rw [if_neg hc] at e;cases e
  | _=>rw [hv] at e;cases e
def dalt (f g:FE):FE:=fun δ=>match f δ with
 | some r=>some r
 | none=>g δ
theorem de_alt {f g:FE} (hf:DE X e f) (hg:DE X e g):DE X e (dalt f g):=.mk <| fun pins s σ H Q I ⟨Hs,δ,r,S,En,e,K⟩=>by
 unfold dalt at e
 cases ef:f δ with
 | none=>rw [ef] at e;exact hg.go pins s σ H Q I ⟨Hs,δ,r,S,En,e,K⟩
 | some r'=>rw [ef] at e;cases e;exact hf.go pins s σ H Q I ⟨Hs,δ,r,S,En,ef,K⟩
def az (o:D→Option R) (fa:DSt→Option (List R)):FE:=fun δ=>(fa δ).bind fun rs=>match rs with
 | [r]=>o r.view
 | _=>none
def rC1 (o:D→Option R):List V→Hp→VK→Prop:=fun xs H Q=>∃ x,xs=[x]∧rD1 o x H Q
theorem nl {o:D→Option R} {σ:St} {H:Hp} {Q:VK} (h:tD (az o fr) σ H Q):tCB (rC1 o) (tDA fr) σ H Q:=by
 obtain ⟨Hs,δ,r,S,En,e,K⟩:=h
 unfold az at e
 cases ea:fr δ with
 | none=>rw [ea] at e;cases e
 | some rs=>
  rw [ea] at e
  refine ⟨Hs,δ,rs,S,En,ea,fun vs Hs1 H1 W1 R1=>?_⟩
  match rs,e,R1 with
  | [r1],e,⟨v,t,ev,q1,q2⟩=>
   have q2:t=[]:=q2
   subst q2
   exact ⟨v,ev,Hs1,r1.view,r,W1.sub,q1.view,e,fun u Hs2 H2 W2 R2=>K u Hs2 H2 (W1.trans W2) (R2.older W1.keep)⟩
def bo (o:D→D→Option R) (fa:DSt→Option (List R)):FE:=fun δ=>(fa δ).bind fun rs=>match rs with
 | [r,s]=>o r.view s.view
 | _=>none
def rC2 (o:D→D→Option R):List V→Hp→VK→Prop:=fun xs H Q=>∃ x y,xs=[x,y]∧rD o x y H Q
theorem tD_call2 {o:D→D→Option R} {σ:St} {H:Hp} {Q:VK} (h:tD (bo o fr) σ H Q):tCB (rC2 o) (tDA fr) σ H Q:=by
 obtain ⟨Hs,δ,r,S,En,e,K⟩:=h
 unfold bo at e
 cases ea:fr δ with
 | none=>rw [ea] at e;cases e
 | some rs=>
  rw [ea] at e
  refine ⟨Hs,δ,rs,S,En,ea,fun vs Hs1 H1 W1 R1=>?_⟩
  match rs,e,R1 with
  | [r1,r2],e,⟨v,t,ev,q1,⟨v2,t2,ev2,p1,p2⟩⟩=>
   have p2:t2=[]:=p2
   subst p2
   exact ⟨v,v2,by rw [ev,ev2],Hs1,r1.view,r2.view,r,W1.sub,q1.view,p1.view,e,fun u Hs2 H2 W2 R2=>K u Hs2 H2 (W1.trans W2) (R2.older W1.keep)⟩
end
end Ew
end
section
set_option Elab.async false
set_option linter.all false
set_option maxRecDepth 100000
namespace Ew
open PySem PySem.Spec L2
def Fp (H:Hp):E→V→Addr→Prop
 | .sh _,_,_=>False
 | .ow _,v,b=>v=.ref b
 | .ob a C _,_,b=>b=a∨∃ fvs,H a=some (.ins C b fvs)
 | .nw d,v,b=>∃ L,Own H d v L∧b∈L
 | .on _ d,v,b=>∃ L,Own H d v L∧b∈L
 | .scr _ _,_,_=>False
theorem eL.fp {Hs H:Hp} {e:E} {v:V} {b:Addr} (h:eL Hs H e v) (f:Fp H e v b):Hs b=none∧∃ o,H b=some o:=by
 cases e with
 | sh d=>cases f
 | ow ds=>
  obtain ⟨a,vs,e1,m,h1,h2⟩:=h
  rw [e1] at f;cases f
  exact ⟨m,_,h1⟩
 | ob a C fs=>
  obtain ⟨e1,dx,fvs,m,m2,h1,h3,h2⟩:=h
  rcases f with rfl | ⟨fvs',f⟩
  ·
   exact ⟨m,_,h1⟩
  ·
   rw [h1] at f;cases f
   exact ⟨m2,_,h3⟩
 | nw d=>
  obtain ⟨L,h1,h2⟩:=h
  obtain ⟨L',h3,hb⟩:=f
  rw [Own.uniq d h3 h1] at hb
  exact ⟨h2 b hb,Own.cell d h1 b hb⟩
 | on a d=>
  obtain ⟨_,L,h1,h2⟩:=h
  obtain ⟨L',h3,hb⟩:=f
  rw [Own.uniq d h3 h1] at hb
  exact ⟨h2 b hb,Own.cell d h1 b hb⟩
 | scr K ns=>cases f
theorem eL.agree {Hs H H':Hp} {e:E} {v:V} (h:eL Hs H e v) (k:∀ b,Fp H e v b→H' b=H b):eL Hs H' e v∧∀ b,Fp H' e v b→Fp H e v b:=by
 cases e with
 | sh d=>exact ⟨h,fun b f=>f⟩
 | ow ds=>
  obtain ⟨a,vs,e1,m,h1,h2⟩:=h
  exact ⟨⟨a,vs,e1,m,by rw [k a e1];exact h1,h2⟩,fun b f=>f⟩
 | ob a C fs=>
  obtain ⟨e1,dx,fvs,m,m2,h1,h3,h2⟩:=h
  have ka:=k a (.inl rfl)
  exact ⟨⟨e1,dx,fvs,m,m2,by rw [ka];exact h1,by rw [k dx (.inr ⟨fvs,h1⟩)];exact h3,h2⟩,fun b f=>by
   rcases f with f | ⟨fvs',f⟩
   ·
    exact .inl f
   ·
    rw [ka] at f;exact .inr ⟨fvs',f⟩⟩
 | nw d=>
  obtain ⟨L,h1,h2⟩:=h
  have h1':Own H' d v L:=h1.agree d fun b hb=>k b ⟨L,h1,hb⟩
  exact ⟨⟨L,h1',h2⟩,fun b ⟨L',f,hb⟩=>⟨L,h1,by rw [Own.uniq d f h1'] at hb;exact hb⟩⟩
 | on a d=>
  obtain ⟨e1,L,h1,h2⟩:=h
  have h1':Own H' d v L:=h1.agree d fun b hb=>k b ⟨L,h1,hb⟩
  exact ⟨⟨e1,L,h1',h2⟩,fun b ⟨L',f,hb⟩=>⟨L,h1,by rw [Own.uniq d f h1'] at hb;exact hb⟩⟩
 | scr K ns=>exact ⟨h,fun b f=>f⟩
theorem eL.grow {Hs H H':Hp} {e:E} {v:V} (s:aG H H') (h:eL Hs H e v):eL Hs H' e v∧∀ b,Fp H' e v b→Fp H e v b:=h.agree fun b f=>by
 obtain ⟨_,o,ho⟩:=h.fp f
 rw [ho,s _ _ ho]
theorem eL.frame {Hs Hs1 H:Hp} {e:E} {v:V} (s:aG Hs Hs1) (h:eL Hs H e v) (k:∀ b,Fp H e v b→Hs1 b=none):eL Hs1 H e v:=by
 cases e with
 | sh d=>exact Rep.mono s d h
 | ow ds=>
  obtain ⟨a,vs,e1,m,h1,h2⟩:=h
  exact ⟨a,vs,e1,k a e1,h1,au.mono s _ h2⟩
 | ob a C fs=>
  obtain ⟨e1,dx,fvs,m,m2,h1,h3,h2⟩:=h
  exact ⟨e1,dx,fvs,k a (.inl rfl),k dx (.inr ⟨fvs,h1⟩),h1,h3,dD.mono s _ h2⟩
 | nw d=>
  obtain ⟨L,h1,h2⟩:=h
  exact ⟨L,h1,fun b hb=>k b ⟨L,h1,hb⟩⟩
 | on a d=>
  obtain ⟨e1,L,h1,h2⟩:=h
  exact ⟨e1,L,h1,fun b hb=>k b ⟨L,h1,hb⟩⟩
 | scr K ns=>
  obtain ⟨a,e,h1⟩:=h
  exact ⟨a,e,fW s h1⟩
structure StR (H0 Hs H:Hp) (δ:DSt) (σ:St):Prop where
 ent:eE Hs H δ σ
 len:σ.length=δ.length
 new:∀ (i:Nat) (e:E) (v:V) (b:Addr),δ[i]?=some (some e)→σ[i]?=some (some v)→Fp H e v b→H0 b=none
 dis:∀ (i j:Nat) (e e':E) (v v':V) (b:Addr),i≠j→δ[i]?=some (some e)→δ[j]?=some (some e')→σ[i]?=some (some v)→σ[j]?=some (some v')→Fp H e v b→Fp H e' v' b→False
theorem StR.rep {H0 Hs H:Hp} {δ:DSt} {σ:St} (h:StR H0 Hs H δ σ) {i:Nat} {e:E} {v:V} (q:δ[i]?=some (some e)) (hv:σ[i]?=some (some v)):eL Hs H e v:=by
 obtain ⟨v',h1,h2⟩:=h.ent i e q
 rw [hv] at h1;cases h1
 exact h2
theorem StR.mono {H0 H Hs Hs' H':Hp} {δ:DSt} {σ:St} (w:Wd H Hs Hs' H') (h:StR H0 Hs H δ σ):StR H0 Hs' H' δ σ:=by
 have g:∀ (i:Nat) (e:E) (v:V) (b:Addr),δ[i]?=some (some e)→σ[i]?=some (some v)→Fp H' e v b→Fp H e v b:=fun i e v b q1 q2 f=>((h.rep q1 q2).grow w.keep).2 b f
 exact ⟨h.ent.mono w,h.len,fun i e v b q1 q2 f=>h.new i e v b q1 q2 (g i e v b q1 q2 f),fun i j e e' v v' b n q1 q2 q3 q4 f f'=>h.dis i j e e' v v' b n q1 q2 q3 q4 (g i e v b q1 q3 f) (g j e' v' b q2 q4 f')⟩
theorem get_set {α:Type} {l:List α} {i j:Nat} {x y:α} (h:(l.set i x)[j]?=some y):(j=i∧y=x∧i<l.length)∨(j≠i∧l[j]?=some y):=by
 by_cases hj:j=i
 ·
  subst hj
  have hl:j<l.length:=by
   have:=(List.getElem?_eq_some_iff.mp h).1
   simpa using this
  rw [List.getElem?_set_self hl] at h
  exact .inl ⟨rfl,(Option.some.inj h).symm,hl⟩
 ·
  rw [List.getElem?_set_ne (Ne.symm hj)] at h
  exact .inr ⟨hj,h⟩
theorem StR.upG {H0 Hs0 Hs H Hs' H':Hp} {δ:DSt} {σ:St} {i:Nat} {e e':E} {v v':V} (W:Wd H0 Hs0 Hs H) (S:StR H0 Hs H δ σ) (q:δ[i]?=some (some e)) (hv:σ[i]?=some (some v))
  (keep:∀ b o,¬Fp H e v b→H b=some o→H' b=some o) (sub:aG Hs' H') (base:aG Hs Hs') (new:∀ a o,Hs' a=some o→Hs a=some o∨H a=none)
  (r:eL Hs' H' e' v') (own:∀ b,Fp H' e' v' b→Fp H e v b∨H b=none) :
  Wd H0 Hs0 Hs' H'∧StR H0 Hs' H' (δ.set i (some e')) (σ.set i (some v')):=by
 have hi:i<δ.length:=(List.getElem?_eq_some_iff.mp q).1
 have ag:∀ (j:Nat) (en:E) (u:V),j≠i→δ[j]?=some (some en)→σ[j]?=some (some u)→eL Hs' H' en u∧∀ b,Fp H' en u b→Fp H en u b:=fun j en u hj q1 q2=>by
  have r0:=S.rep q1 q2
  obtain ⟨r1,f1⟩:=r0.agree (H':=H') fun b f=>by
   obtain ⟨_,o,ho⟩:=r0.fp f
   rw [ho]
   exact keep b o (fun z=>S.dis j i en e u v b hj q1 q q2 hv f z) ho
  refine ⟨r1.frame base fun b f=>?_,f1⟩
  obtain ⟨m,o,ho⟩:=r0.fp (f1 b f)
  cases z:Hs' b with
  | none=>rfl
  | some o'=>
   rcases new b o' z with z' | z'
   ·
    rw [m] at z';cases z'
   ·
    rw [ho] at z';cases z'
 refine ⟨⟨fun b o hb=>?_,sub,W.base.trans base,fun a o ha=>?_⟩,⟨fun j en hj=>?_,by simpa using S.len,fun j en u b hj hu f=>?_,fun j k e1 e2 u1 u2 b hjk h1 h2 g1 g2 f1 f2=>?_⟩⟩
 ·
  refine keep b o (fun z=>?_) (W.keep _ _ hb)
  rw [S.new i e v b q hv z] at hb;cases hb
 ·
  rcases new a o ha with z | z
  ·
   exact W.new a o z
  ·
   exact .inr (W.keep.free z)
 ·
  rcases get_set hj with ⟨rfl,e1,_⟩ | ⟨hne,q1⟩
  ·
   cases e1
   exact ⟨v',List.getElem?_set_self (by rw [S.len];exact hi),r⟩
  ·
   obtain ⟨u,hu,_⟩:=S.ent j en q1
   exact ⟨u,by rw [List.getElem?_set_ne (Ne.symm hne)];exact hu,(ag j en u hne q1 hu).1⟩
 ·
  rcases get_set hj with ⟨rfl,e1,_⟩ | ⟨hne,q1⟩
  ·
   cases e1
   rw [List.getElem?_set_self (by rw [S.len];exact hi)] at hu
   cases hu
   rcases own b f with z | z
   ·
    exact S.new _ e v b q hv z
   ·
    exact W.keep.free z
  ·
   rw [List.getElem?_set_ne (Ne.symm hne)] at hu
   exact S.new j en u b q1 hu ((ag j en u hne q1 hu).2 b f)
 ·
  have other:∀ (j:Nat) (en:E) (u:V),j≠i→δ[j]?=some (some en)→σ[j]?=some (some u)→Fp H' en u b→Fp H' e' v' b→False:=fun j en u hne q1 q2 f f'=>by
   have f0:=(ag j en u hne q1 q2).2 b f
   rcases own b f' with z | z
   ·
    exact S.dis j i en e u v b hne q1 q q2 hv f0 z
   ·
    obtain ⟨_,o,ho⟩:=(S.rep q1 q2).fp f0
    rw [ho] at z;cases z
  rcases get_set h1 with ⟨rfl,z1,_⟩ | ⟨hne,q1⟩
  ·
   rcases get_set h2 with ⟨rfl,z2,_⟩ | ⟨hne2,q2⟩
   ·
    exact hjk rfl
   ·
    cases z1
    rw [List.getElem?_set_self (by rw [S.len];exact hi)] at g1
    rw [List.getElem?_set_ne (Ne.symm hne2)] at g2
    cases g1
    exact other k e2 u2 hne2 q2 g2 f2 f1
  ·
   rw [List.getElem?_set_ne (Ne.symm hne)] at g1
   rcases get_set h2 with ⟨rfl,z2,_⟩ | ⟨hne2,q2⟩
   ·
    cases z2
    rw [List.getElem?_set_self (by rw [S.len];exact hi)] at g2
    cases g2
    exact other j e1 u1 hne q1 g1 f1 f2
   ·
    rw [List.getElem?_set_ne (Ne.symm hne2)] at g2
    exact S.dis j k e1 e2 u1 u2 b hjk q1 q2 g1 g2 ((ag j e1 u1 hne q1 g1).2 b f1) ((ag k e2 u2 hne2 q2 g2).2 b f2)
theorem StR.put {H0 Hs H Hs' H':Hp} {δ:DSt} {σ:St} {i:Nat} {e':E} {v':V} (k:aG H0 H) (S:StR H0 Hs H δ σ) (w:Wd H Hs Hs' H') (r:eL Hs' H' e' v') (own:∀ b,Fp H' e' v' b→H b=none) :
  StR H0 Hs' H' (δ.set i (some e')) (σ.set i (some v')):=by
 have S':=S.mono w
 have back:∀ (j:Nat) (en:E) (u:V) (b:Addr),δ[j]?=some (some en)→σ[j]?=some (some u)→Fp H' en u b→∃ o,H b=some o:=fun j en u b q1 q2 f=>((S.rep q1 q2).fp (((S.rep q1 q2).grow w.keep).2 b f)).2
 refine ⟨fun j en hj=>?_,by simpa using S.len,fun j en u b hj hu f=>?_,fun j k e1 e2 u1 u2 b hjk h1 h2 g1 g2 f1 f2=>?_⟩
 ·
  rcases get_set hj with ⟨rfl,e1,hl⟩ | ⟨hne,q1⟩
  ·
   cases e1
   exact ⟨v',List.getElem?_set_self (by rw [S.len];exact hl),r⟩
  ·
   obtain ⟨u,hu,hr⟩:=S'.ent j en q1
   exact ⟨u,by rw [List.getElem?_set_ne (Ne.symm hne)];exact hu,hr⟩
 ·
  rcases get_set hj with ⟨rfl,e1,hl⟩ | ⟨hne,q1⟩
  ·
   cases e1
   rw [List.getElem?_set_self (by rw [S.len];exact hl)] at hu
   cases hu
   exact k.free (own b f)
  ·
   rw [List.getElem?_set_ne (Ne.symm hne)] at hu
   exact S'.new j en u b q1 hu f
 ·
  have other:∀ (j:Nat) (en:E) (u:V),δ[j]?=some (some en)→σ[j]?=some (some u)→Fp H' en u b→Fp H' e' v' b→False:=fun j en u q1 q2 f f'=>by
   obtain ⟨o,ho⟩:=back j en u b q1 q2 f
   rw [own b f'] at ho;cases ho
  rcases get_set h1 with ⟨rfl,z1,hl⟩ | ⟨hne,q1⟩
  ·
   rcases get_set h2 with ⟨rfl,z2,_⟩ | ⟨hne2,q2⟩
   ·
    exact hjk rfl
   ·
    cases z1
    rw [List.getElem?_set_self (by rw [S.len];exact hl)] at g1
    rw [List.getElem?_set_ne (Ne.symm hne2)] at g2
    cases g1
    exact other k e2 u2 q2 g2 f2 f1
  ·
   rw [List.getElem?_set_ne (Ne.symm hne)] at g1
   rcases get_set h2 with ⟨rfl,z2,hl⟩ | ⟨hne2,q2⟩
   ·
    cases z2
    rw [List.getElem?_set_self (by rw [S.len];exact hl)] at g2
    cases g2
    exact other j e1 u1 q1 g1 f1 f2
   ·
    rw [List.getElem?_set_ne (Ne.symm hne2)] at g2
    exact S'.dis j k e1 e2 u1 u2 b hjk q1 q2 g1 g2 f1 f2
theorem set_same {α:Type} {l:List α} {i:Nat} {x:α} (h:l[i]?=some x):l.set i x=l:=by
 apply List.ext_getElem?
 intro j
 by_cases hj:i=j
 ·
  subst hj
  rw [List.getElem?_set_self (List.getElem?_eq_some_iff.mp h).1,h]
 ·
  rw [List.getElem?_set_ne hj]
inductive Res where
 | nx (δ:DSt)
 | rt (r:R)
 | bk (δ:DSt)
 | ct (δ:DSt)
 | rn (d:D)
def Post (H0 Hs0:Hp) (D:Ends):Res→Prop
 | .nx δ=>∀ σ Hs H,Wd H0 Hs0 Hs H→StR H0 Hs H δ σ→D.nx σ H
 | .rt r=>∀ v Hs H,Wd H0 Hs0 Hs H→c7 H0 Hs H r v→D.rt v H
 | .bk δ=>∀ σ Hs H,Wd H0 Hs0 Hs H→StR H0 Hs H δ σ→D.bk σ H
 | .ct δ=>∀ σ Hs H,Wd H0 Hs0 Hs H→StR H0 Hs H δ σ→D.ct σ H
 | .rn d=>∀ v Hs H L,Wd H0 Hs0 Hs H→Own H d v L→(∀ a∈L,H0 a=none∧Hs a=none)→D.rt v H
abbrev FS:=DSt→Option Res
def tS (H0 Hs0:Hp) (F:FS):TS:=fun D σ H=>∃ Hs δ res,Wd H0 Hs0 Hs H∧StR H0 Hs H δ σ∧F δ=some res∧Post H0 Hs0 D res
structure DS (X:Cx) (st:Stmt) (F:FS):Prop where
 go:∀ H0 Hs0,PS X st (tS H0 Hs0 F)
structure DSs (X:Cx) (st:List Stmt) (F:FS):Prop where
 go:∀ H0 Hs0,PSs X st (tS H0 Hs0 F)
def Res.thn (G:FS):Res→Option Res
 | .nx δ=>G δ
 | .rt r=>some (.rt r)
 | .bk δ=>some (.bk δ)
 | .ct δ=>some (.ct δ)
 | .rn d=>some (.rn d)
def aI:FS:=fun δ=>some (.nx δ)
def ar (F G:FS):FS:=fun δ=>(F δ).bind (Res.thn G)
section
variable {X:Cx} {st:Stmt} {rest:List Stmt} {F G:FS} {e:Expr} {f:FE} {pos:Pos}
theorem dss_nil:DSs X [] aI:=.mk fun H0 Hs0=>pss_nil.weak fun D σ H ⟨Hs,δ,res,W,S,e,P⟩=>by
 cases e
 exact P σ Hs H W S
theorem ai (h1:DS X st F) (h2:DSs X rest G):DSs X (st::rest) (ar F G):=.mk fun H0 Hs0=>(pss_cons (h1.go H0 Hs0) (h2.go H0 Hs0)).weak fun D σ H ⟨Hs,δ,res,W,S,e,P⟩=>by
 unfold ar at e
 cases ef:F δ with
 | none=>rw [ef] at e;cases e
 | some r1=>
  rw [ef] at e
  refine ⟨Hs,δ,r1,W,S,ef,?_⟩
  cases r1 with
  | nx δ1=>exact fun σ1 Hs1 H1 W1 S1=>⟨Hs1,δ1,res,W1,S1,e,P⟩
  | rt r=>cases e;exact P
  | bk δ1=>cases e;exact P
  | ct δ1=>cases e;exact P
  | rn d=>cases e;exact P
theorem ak (h1:DS X st F):DSs X [st] F:=.mk fun H0 Hs0=>pss_one (h1.go H0 Hs0)
theorem h8:DS X st (fun _=>none):=.mk fun H0 Hs0 pins s σ H D I ⟨Hs,δ,res,W,S,e,P⟩=>by cases e
def sif (t:DSt→Option Bool) (F G:FS):FS:=fun δ=>(t δ).bind fun b=>if b=true then F δ else G δ
theorem ds_if {c:Expr} {a b:List Stmt} {t:DSt→Option Bool} (hc:DT X c t) (ha:DSs X a F) (hb:DSs X b G):DS X (.If c a b pos) (sif t F G):=.mk fun H0 Hs0=>(ps_if hc.go (ha.go H0 Hs0) (hb.go H0 Hs0)).weak fun D σ H ⟨Hs,δ,res,W,S,e,P⟩=>by
 unfold sif at e
 cases et:t δ with
 | none=>rw [et] at e;cases e
 | some k=>
  rw [et] at e
  refine ⟨Hs,δ,k,W.sub,S.ent,et,fun Hs1 H1 W1=>?_⟩
  cases k with
  | true=>rw [if_pos rfl];exact ⟨Hs1,δ,res,W.trans W1,S.mono W1,e,P⟩
  | false=>rw [if_neg Bool.false_ne_true];exact ⟨Hs1,δ,res,W.trans W1,S.mono W1,e,P⟩
def aT (f:FE):FS:=fun δ=>(f δ).bind fun r=>if r.isBw=true then none else some (.rt r)
theorem aK (h:DE X e f):DS X (.Return (some e) pos) (aT f):=.mk fun H0 Hs0=>(j9 h.go).weak fun D σ H ⟨Hs,δ,res,W,S,e,P⟩=>by
 unfold aT at e
 cases et:f δ with
 | none=>rw [et] at e;cases e
 | some r=>
  rw [et] at e
  by_cases hb:r.isBw=true
  ·
   rw [show (some r).bind _=(if r.isBw=true then none else some (Res.rt r)) from rfl,if_pos hb] at e;cases e
  ·
   rw [show (some r).bind _=(if r.isBw=true then none else some (Res.rt r)) from rfl,if_neg hb] at e
   cases e
   exact ⟨Hs,δ,r,W.sub,S.ent,et,fun v Hs1 H1 W1 R1=>P v Hs1 H1 (W.trans W1) (R1.older W.keep)⟩
def h9 (i:Nat):FS:=fun δ=>match δ[i]? with
 | some (some (.ow ds))=>some (.rt (.fr ds))
 | some (some (.sh d))=>some (.rt (.sh d))
 | some (some (.nw d))=>some (.rn d)
 | _=>none
theorem jT {i:Nat} {x:Str} {p:Pos} (h:PE X (.Name x p) (eX i)):DS X (.Return (some (.Name x p)) pos) (h9 i):=.mk fun H0 Hs0=>(j9 h).weak fun D σ H ⟨Hs,δ,res,W,S,e,P⟩=>by
 unfold h9 at e
 cases q:δ[i]? with
 | none=>rw [q] at e;cases e
 | some o=>
  cases o with
  | none=>rw [q] at e;cases e
  | some en=>
   rw [q] at e
   obtain ⟨v,hv,hr⟩:=S.ent i en q
   refine ⟨v,hv,?_⟩
   cases en with
   | sh d=>cases e;exact P v Hs H W hr
   | ow ds=>
    cases e
    obtain ⟨a,vs,e1,m,h1,h2⟩:=hr
    subst e1
    exact P _ Hs H W ⟨a,vs,rfl,S.new i _ _ a q hv rfl,m,h1,h2⟩
   | ob a C fs=>cases e
   | nw d=>
    cases e
    obtain ⟨L,h1,h2⟩:=hr
    exact P _ Hs H L W h1 fun b hb=>⟨S.new i _ _ b q hv ⟨L,h1,hb⟩,h2 b hb⟩
   | on b d=>cases e
   | scr K ns=>cases e
def frz (i:Nat) (δ:DSt):DSt:=match δ[i]? with
 | some (some (.ow ds))=>δ.set i (some (.sh (.lst ds)))
 | some (some (.nw d))=>δ.set i (some (.sh d))
 | _=>δ
theorem Own.share {Hs H:Hp} {d:D} {v:V} {L:List Addr} (s:aG Hs H) (h:Own H d v L) (n:∀ a∈L,Hs a=none) :
  ∃ Hs1,Rep Hs1 d v∧aG Hs1 H∧aG Hs Hs1∧∀ a o,Hs1 a=some o→Hs a=some o∨a∈L:=by
 classical
 refine ⟨fun a=>if a∈L then H a else Hs a,h.rep d fun a ha=>by simp [ha],fun a o e=>?_,fun a o e=>?_,fun a o e=>?_⟩
 ·
  by_cases ha:a∈L
  ·
   simpa [ha] using e
  ·
   simp [ha] at e;exact s _ _ e
 ·
  by_cases ha:a∈L
  ·
   rw [n a ha] at e;cases e
  ·
   simp [ha];exact e
 ·
  by_cases ha:a∈L
  ·
   exact .inr ha
  ·
   simp [ha] at e;exact .inl e
theorem StR.frz1 {H0 Hs0 Hs Hs1 H:Hp} {δ:DSt} {σ:St} {i:Nat} {e:E} {v:V} {d:D} (W:Wd H0 Hs0 Hs H) (S:StR H0 Hs H δ σ) (q:δ[i]?=some (some e)) (hv:σ[i]?=some (some v))
  (r:Rep Hs1 d v) (sub:aG Hs1 H) (base:aG Hs Hs1) (new:∀ a o,Hs1 a=some o→Hs a=some o∨Fp H e v a):Wd H0 Hs0 Hs1 H∧StR H0 Hs1 H (δ.set i (some (.sh d))) σ:=by
 have hi:i<δ.length:=(List.getElem?_eq_some_iff.mp q).1
 have fr:∀ (j:Nat) (en:E) (u:V),j≠i→δ[j]?=some (some en)→σ[j]?=some (some u)→eL Hs1 H en u:=fun j en u hj q1 q2=>by
  have r0:=S.rep q1 q2
  refine r0.frame base fun b f=>?_
  obtain ⟨m,_⟩:=r0.fp f
  cases z:Hs1 b with
  | none=>rfl
  | some o=>
   rcases new b o z with z' | z'
   ·
    rw [m] at z';cases z'
   ·
    exact (S.dis j i en e u v b hj q1 q q2 hv f z').elim
 refine ⟨⟨W.keep,sub,W.base.trans base,fun a o ha=>?_⟩,⟨fun j en hj=>?_,by simpa using S.len,fun j en u b hj hu f=>?_,fun j k e1 e2 u1 u2 b hjk h1 h2 g1 g2 f1 f2=>?_⟩⟩
 ·
  rcases new a o ha with z | z
  ·
   exact W.new a o z
  ·
   exact .inr (S.new i e v a q hv z)
 ·
  rcases get_set hj with ⟨rfl,e1,_⟩ | ⟨hne,q1⟩
  ·
   cases e1
   exact ⟨v,hv,r⟩
  ·
   obtain ⟨u,hu,_⟩:=S.ent j en q1
   exact ⟨u,hu,fr j en u hne q1 hu⟩
 ·
  rcases get_set hj with ⟨rfl,e1,_⟩ | ⟨hne,q1⟩
  ·
   cases e1;cases f
  ·
   exact S.new j en u b q1 hu f
 ·
  rcases get_set h1 with ⟨rfl,z1,_⟩ | ⟨hne,q1⟩
  ·
   cases z1;cases f1
  ·
   rcases get_set h2 with ⟨rfl,z2,_⟩ | ⟨hne2,q2⟩
   ·
    cases z2;cases f2
   ·
    exact S.dis j k e1 e2 u1 u2 b hjk q1 q2 g1 g2 f1 f2
theorem StR.frz {H0 Hs0 Hs H:Hp} {δ:DSt} {σ:St} {i:Nat} (W:Wd H0 Hs0 Hs H) (S:StR H0 Hs H δ σ):∃ Hs1,Wd H0 Hs0 Hs1 H∧StR H0 Hs1 H (frz i δ) σ:=by
 unfold Ew.frz
 cases q:δ[i]? with
 | none=>exact ⟨Hs,W,S⟩
 | some o=>
  cases o with
  | none=>exact ⟨Hs,W,S⟩
  | some en=>
   cases en with
   | sh d=>exact ⟨Hs,W,S⟩
   | ob a C fs=>exact ⟨Hs,W,S⟩
   | on b d=>exact ⟨Hs,W,S⟩
   | scr K ns=>exact ⟨Hs,W,S⟩
   | nw d=>
    obtain ⟨v,hv,L,h1,h2⟩:=S.ent i _ q
    obtain ⟨Hs1,r,s1,s2,s3⟩:=h1.share W.sub h2
    exact ⟨Hs1,S.frz1 W q hv r s1 s2 fun a o e=>(s3 a o e).imp id fun z=>⟨L,h1,z⟩⟩
   | ow ds=>
    obtain ⟨v,hv,a,vs,e1,m,h1,h2⟩:=S.ent i _ q
    subst e1
    refine ⟨L2.upd Hs a (.lst vs),S.frz1 W q hv ?_ (fun b o e=>?_) (.new m) fun b o e=>?_⟩
    ·
     unfold Rep
     exact ⟨a,vs,rfl,aA,au.mono (.new m) ds h2⟩
    ·
     by_cases hb:b=a
     ·
      subst hb;rw [aA] at e;cases e;exact h1
     ·
      rw [aB hb] at e;exact W.sub _ _ e
    ·
     by_cases hb:b=a
     ·
      subst hb;exact .inr rfl
     ·
      rw [aB hb] at e;exact .inl e
def sfrz (i:Nat) (F:FS):FS:=fun δ=>F (frz i δ)
theorem gK {i:Nat} (h:DS X st F):DS X st (sfrz i F):=.mk fun H0 Hs0=>(h.go H0 Hs0).weak fun D σ H ⟨Hs,δ,res,W,S,e,P⟩=>by
 obtain ⟨Hs1,W1,S1⟩:=S.frz (i:=i) W
 exact ⟨Hs1,_,res,W1,S1,e,P⟩
def R.ent:R→Option E
 | .sh d=>some (.sh d)
 | .fr ds=>some (.ow ds)
 | .bw _=>none
theorem StR.set {H0 Hs0 H Hs Hs' H':Hp} {δ:DSt} {σ:St} {i:Nat} {r:R} {v:V} {en:E} (W:Wd H0 Hs0 Hs H) (S:StR H0 Hs H δ σ) (w:Wd H Hs Hs' H') (h:c7 H Hs' H' r v) (e:r.ent=some en):StR H0 Hs' H' (δ.set i (some en)) (σ.set i (some v)):=by
 refine S.put W.keep w ?_ fun b f=>?_
 ·
  cases r with
  | sh d=>cases e;exact h
  | fr ds=>cases e;obtain ⟨a,vs,e1,_,m,h1,h2⟩:=h;exact ⟨a,vs,e1,m,h1,h2⟩
  | bw ds=>cases e
 ·
  cases r with
  | sh d=>cases e;cases f
  | fr ds=>cases e;obtain ⟨a,vs,e1,n,_⟩:=h;rw [e1] at f;cases f;exact n
  | bw ds=>cases e
def sset (i:Nat) (f:FE):FS:=fun δ=>(f δ).bind fun r=>r.ent.bind fun en=>some (.nx (δ.set i (some en)))
theorem ts_set {H0 Hs0:Hp} {i:Nat} {D:Ends} {σ:St} {H:Hp} (h:tS H0 Hs0 (sset i f) D σ H):tAsg (tD f) (lq i) D σ H:=by
 obtain ⟨Hs,δ,res,W,S,e,P⟩:=h
 unfold sset at e
 cases et:f δ with
 | none=>rw [et] at e;cases e
 | some r=>
  rw [et] at e
  replace e:(r.ent.bind fun en=>some (Res.nx (δ.set i (some en))))=some res:=e
  cases ee:r.ent with
  | none=>rw [ee] at e;cases e
  | some en=>
   rw [ee] at e
   cases e
   exact ⟨Hs,δ,r,W.sub,S.ent,et,fun v Hs1 H1 W1 R1=>P _ Hs1 H1 (W.trans W1) (S.set W W1 R1 ee)⟩
theorem ds_set {i:Nat} {x:Str} {pos':Pos} (hN:X.N.Nodup) (hi:X.N[i]?=some x) (hx:Loc X.env.scope x) (he:DE X e f) (hs:swapsWith e (some (.Name x pos')) pos.line X.env=pure false:=by rfl)
 (hf:X.fn x=true∨X.env.scope.names.lookup x=some .local:=by first | exact .inl rfl | exact .inr rfl | assumption):DS X (.Assign [.Name x pos'] e pos) (sset i f):=.mk fun H0 Hs0=>(ps_set hN hi hx he.go hs hf).weak fun _ _ _=>ts_set
end
end Ew
end
section
set_option Elab.async false
set_option linter.all false
set_option maxRecDepth 100000
namespace L2
open PySem PySem.Spec
theorem PI.weak {X:Cx} {tg iter:Expr} {t t':TI} (h:PI X tg iter t) (w:∀ σ H R,t' σ H R→t σ H R):PI X tg iter t':=fun pins s σ H R I q=>h pins s σ H R I (w σ H R q)
theorem PG.weak {X:Cx} {tg:Expr} {t t':TG} (h:PG X tg t) (w:∀ v σ H Q,t' v σ H Q→t v σ H Q):PG X tg t':=fun pins s σ H v u Q I r q=>h pins s σ H v u Q I r (w v σ H Q q)
theorem PGs.weak {X:Cx} {ts:List Expr} {t t':TGs} (h:PGs X ts t) (w:∀ v σ H Q,t' v σ H Q→t v σ H Q):PGs X ts t':=fun pins s σ H v u Q I r q=>h pins s σ H v u Q I r (w v σ H Q q)
end L2
namespace Ew
open PySem PySem.Spec L2
structure ia (Hs:Hp) (ks:List Nat) (δ:DSt) (σ:St) (δ':DSt) (σ':St):Prop where
 lenS:σ'.length=σ.length
 lenD:δ'.length=δ.length
 out:∀ j,j∉ks→δ'[j]?=δ[j]?∧σ'[j]?=σ[j]?
 ins:∀ j,j∈ks→∃ d v,δ'[j]?=some (some (.sh d))∧σ'[j]?=some (some v)∧Rep Hs d v
theorem ia.refl {Hs:Hp} {δ:DSt} {σ:St}:ia Hs [] δ σ δ σ:=⟨rfl,rfl,fun _ _=>⟨rfl,rfl⟩,fun _ h=>by cases h⟩
theorem ia.trans {Hs:Hp} {ks js:List Nat} {δ δ1 δ2:DSt} {σ σ1 σ2:St} (a:ia Hs ks δ σ δ1 σ1) (b:ia Hs js δ1 σ1 δ2 σ2):ia Hs (ks++js) δ σ δ2 σ2:=
 ⟨b.lenS.trans a.lenS,b.lenD.trans a.lenD,fun j hj=>by
  have h1:j∉ks:=fun z=>hj (List.mem_append_left _ z)
  have h2:j∉js:=fun z=>hj (List.mem_append_right _ z)
  exact ⟨(b.out j h2).1.trans (a.out j h1).1,(b.out j h2).2.trans (a.out j h1).2⟩,fun j hj=>by
  by_cases h2:j∈js
  ·
   exact b.ins j h2
  ·
   have h1:j∈ks:=(List.mem_append.mp hj).elim id fun z=>absurd z h2
   obtain ⟨d,v,e1,e2,r⟩:=a.ins j h1
   exact ⟨d,v,(b.out j h2).1.trans e1,(b.out j h2).2.trans e2,r⟩⟩
theorem ia.ent {Hs H:Hp} {ks:List Nat} {δ δ':DSt} {σ σ':St} (r:ia Hs ks δ σ δ' σ') (h:eE Hs H δ σ):eE Hs H δ' σ':=fun i e q=>by
 by_cases hi:i∈ks
 ·
  obtain ⟨d,v,e1,e2,rr⟩:=r.ins i hi
  rw [q] at e1;cases e1
  exact ⟨v,e2,rr⟩
 ·
  rw [(r.out i hi).1] at q
  rw [(r.out i hi).2]
  exact h i e q
theorem ia.st {H0 Hs H:Hp} {ks:List Nat} {δ δ':DSt} {σ σ':St} (r:ia Hs ks δ σ δ' σ') (h:StR H0 Hs H δ σ):StR H0 Hs H δ' σ':=by
 have no:∀ i en,δ'[i]?=some (some en)→(∀ d,en≠.sh d)→i∉ks:=fun i en q n hi=>by
  obtain ⟨d,v,e1,_⟩:=r.ins i hi
  rw [q] at e1;cases e1
  exact n d rfl
 have fp:∀ i en v b,δ'[i]?=some (some en)→Fp H en v b→i∉ks:=fun i en v b q f=>no i en q fun d z=>by rw [z] at f;cases f
 refine ⟨r.ent h.ent,by rw [r.lenS,r.lenD];exact h.len,fun i e v b q1 q2 f=>?_,fun i j e e' v v' b hij q1 q2 q3 q4 f f'=>?_⟩
 ·
  have hi:=fp i e v b q1 f
  rw [(r.out i hi).1] at q1;rw [(r.out i hi).2] at q2
  exact h.new i e v b q1 q2 f
 ·
  have hi:=fp i e v b q1 f
  have hj:=fp j e' v' b q2 f'
  rw [(r.out i hi).1] at q1;rw [(r.out i hi).2] at q3
  rw [(r.out j hj).1] at q2;rw [(r.out j hj).2] at q4
  exact h.dis i j e e' v v' b hij q1 q2 q3 q4 f f'
abbrev GD:=D→DSt→Option DSt
abbrev GDs:=List D→DSt→Option DSt
def tG (ks:List Nat) (g:GD):TG:=fun v σ H Q=>∃ Hs δ d δ',aG Hs H∧σ.length=δ.length∧Rep Hs d v∧g d δ=some δ'∧∀ σ',ia Hs ks δ σ δ' σ'→Q σ' H
def tGs (ks:List Nat) (g:GDs):TGs:=fun vs σ H Q=>∃ Hs δ ds δ',aG Hs H∧σ.length=δ.length∧au Hs ds vs∧g ds δ=some δ'∧∀ σ',ia Hs ks δ σ δ' σ'→Q σ' H
structure DG (X:Cx) (tg:Expr) (ks:List Nat) (g:GD):Prop where
 go:PG X tg (tG ks g)
structure DGs (X:Cx) (ts:List Expr) (ks:List Nat) (g:GDs):Prop where
 go:PGs X ts (tGs ks g)
def am (i:Nat):GD:=fun d δ=>if i<δ.length then some (δ.set i (some (.sh d))) else none
theorem ia.name {Hs:Hp} {i:Nat} {δ:DSt} {σ:St} {d:D} {v:V} (hl:σ.length=δ.length) (hi:i<δ.length) (r:Rep Hs d v):ia Hs [i] δ σ (δ.set i (some (.sh d))) (σ.set i (some v)):=
 ⟨by simp,by simp,fun j hj=>by
  have:i≠j:=fun z=>hj (by simp [z])
  exact ⟨List.getElem?_set_ne this,List.getElem?_set_ne this⟩,fun j hj=>by
  have e:j=i:=by simpa using hj
  subst e
  exact ⟨d,v,List.getElem?_set_self hi,List.getElem?_set_self (by rw [hl];exact hi),r⟩⟩
section
variable {X:Cx} {pos:Pos}
theorem dg_name {i:Nat} {x:Str} (h:PG X (.Name x pos) (lq i)):DG X (.Name x pos) [i] (am i):=.mk <| h.weak fun v σ H Q ⟨Hs,δ,d,δ',S,hl,r,e,K⟩=>by
 unfold am at e
 by_cases hi:i<δ.length
 ·
  rw [if_pos hi] at e
  cases e
  exact K _ (.name hl hi r)
 ·
  rw [if_neg hi] at e;cases e
def eM:GDs:=fun ds δ=>match ds with
 | []=>some δ
 | _=>none
def aX (g:GD) (gs:GDs):GDs:=fun ds δ=>match ds with
 | d::r=>(g d δ).bind fun δ1=>gs r δ1
 | []=>none
theorem dgs_nil:DGs X [] [] eM:=.mk <| pgs_nil.weak fun vs σ H Q ⟨Hs,δ,ds,δ',S,hl,r,e,K⟩=>by
 cases ds with
 | nil=>cases e;unfold au at r;exact ⟨r,K σ .refl⟩
 | cons d ds=>cases e
theorem nr {e:Expr} {es:List Expr} {ks js:List Nat} {g:GD} {gs:GDs} (h1:DG X e ks g) (h2:DGs X es js gs)
  (hs:(assignEach (e::es) X.env).map (·.2)=assign e X.env::(assignEach es X.env).map (·.2):=by rfl):DGs X (e::es) (ks++js) (aX g gs):=.mk <|
 (pgs_cons h1.go h2.go hs).weak fun vs σ H Q ⟨Hs,δ,ds,δ',S,hl,r,e,K⟩=>by
  cases ds with
  | nil=>cases e
  | cons d ds=>
   unfold au at r
   obtain ⟨v,t,rfl,r1,r2⟩:=r
   unfold aX at e
   cases eg:g d δ with
   | none=>simp only [eg] at e;cases e
   | some δ1=>
    simp only [eg] at e
    exact ⟨v,t,rfl,Hs,δ,d,δ1,S,hl,r1,eg,fun σ1 q1=>⟨Hs,δ1,ds,δ',S,by rw [q1.lenS,q1.lenD];exact hl,r2,e,fun σ2 q2=>K σ2 (q1.trans q2)⟩⟩
def eG (n:Nat) (gs:GDs):GD:=fun d δ=>match d with
 | .tup ds=>if ds.length=n then gs ds δ else none
 | _=>none
theorem dg_tup {es:List Expr} {k:Nat} {ks:List Nat} {gs:GDs} {n:Nat} (hc:X.calm=true) (h:DGs X es ks gs)
  (hn:(assignEach es X.env).length=n:=by rfl) (hst:(assignEach es X.env).findIdx? (·.1)=none:=by rfl):DG X (.Tuple es k pos) ks (eG n gs):=.mk <|
 (pg_tup hc h.go hn hst).weak fun v σ H Q ⟨Hs,δ,d,δ',S,hl,r,e,K⟩=>by
  cases d with
  | tup ds=>
   unfold Rep at r
   obtain ⟨a,vs,rfl,h1,h2⟩:=r
   unfold eG at e
   by_cases hd:ds.length=n
   ·
    simp only [if_pos hd] at e
    exact ⟨a,vs,rfl,.of (S _ _ h1),h2.length.trans hd,Hs,δ,ds,δ',S,hl,h2,e,K⟩
   ·
    simp only [if_neg hd] at e;cases e
  | _=>cases e
end
def Yields (J:It) (Hs1:Hp) (items:List D):Prop:=∀ i Hs H,aG Hs1 Hs→aG Hs H→
 (∀ d,items[i]?=some d→J.go i H∧∀ x H',J.yld i H x H'→∃ Hs',Wd H Hs Hs' H'∧Rep Hs' d x)∧(items.length≤i→J.stop i H)
def tI (fi:DSt→Option (List D)):TI:=fun σ H R=>∃ Hs δ items,aG Hs H∧eE Hs H δ σ∧fi δ=some items∧∀ J Hs' H',Wd H Hs Hs' H'→Yields J Hs' items→R J H'
structure DI (X:Cx) (tg iter:Expr) (fi:DSt→Option (List D)):Prop where
 go:PI X tg iter (tI fi)
def aZ (f:FE):DSt→Option (List D):=fun δ=>(f δ).bind fun r=>if r.isBw=true then none else match r.view with
 | .lst ds=>some ds
 | _=>none
def itup (f:FE):DSt→Option (List D):=fun δ=>(f δ).bind fun r=>match r with
 | .sh (.tup ds)=>some ds
 | _=>none
theorem nv {K:PySem.W.Frag} {Hs1:Hp} {a:Addr} {vs:List V} {ds:List D} (h:Hs1 a=some (.lst vs)) (r:au Hs1 ds vs):Yields (Itl K a) Hs1 ds:=by
 intro i Hs H S1 S2
 have hH:=S2 _ _ (S1 _ _ h)
 refine ⟨fun d hd=>?_,fun hl=>⟨vs,.of hH,by rw [r.length];exact hl⟩⟩
 obtain ⟨v,hv,rv⟩:=r.get hd
 refine ⟨⟨vs,v,.of hH,hv⟩,fun x H' y=>?_⟩
 obtain ⟨rfl,y⟩:=y
 have:=y vs (.of hH)
 rw [hv] at this;cases this
 exact ⟨Hs,.refl S2,Rep.mono S1 _ rv⟩
theorem mn {Hs1:Hp} {lo:Int} {n:Nat}:Yields (Itr lo n) Hs1 ((List.range n).map fun k=>.int (lo+(k:Nat))):=by
 intro i Hs H S1 S2
 refine ⟨fun d hd=>?_,fun hl=>(show n≤i by simpa using hl)⟩
 have hi:i<n:=by
  have:=(List.getElem?_eq_some_iff.mp hd).1
  simpa using this
 rw [List.getElem?_map,List.getElem?_range hi] at hd
 cases hd
 refine ⟨hi,fun x H' y=>?_⟩
 obtain ⟨rfl,rfl⟩:=y
 exact ⟨Hs,.refl S2,by unfold Rep;rfl⟩
section
variable {X:Cx} {tg l:Expr} {f:FE}
theorem bG (hl:DE X l f):DI X tg l (aZ f):=.mk <| (pi_list hl.go).weak fun σ H R ⟨Hs,δ,items,S,En,e,K⟩=>by
 unfold aZ at e
 cases ef:f δ with
 | none=>rw [ef] at e;cases e
 | some r=>
  rw [ef] at e
  by_cases hb:r.isBw=true
  ·
   simp only [Option.bind,if_pos hb] at e;cases e
  ·
   simp only [Option.bind,if_neg hb] at e
   refine ⟨Hs,δ,r,S,En,ef,fun x Hs1 H1 W1 R1=>?_⟩
   obtain ⟨Hs2,q,W2⟩:=R1.share W1 (fun ds z=>hb (by rw [z];rfl))
   cases hv:r.view with
   | lst ds=>
    rw [hv] at e q
    cases e
    unfold Rep at q
    obtain ⟨a,vs,rfl,h1,h2⟩:=q
    exact ⟨a,rfl,⟨vs,.of (W2.sub _ _ h1)⟩,K _ Hs2 H1 W2 (nv h1 h2)⟩
   | _=>rw [hv] at e;cases e
def dJ (fa:DSt→Option (List R)):DSt→Option (List D):=fun δ=>(fa δ).bind fun rs=>match rs with
 | [.sh (.int j)]=>if -(2 ^ 62)≤j∧j<2 ^ 62 then some ((List.range j.toNat).map fun k=>.int (0+(k:Nat))) else none
 | _=>none
theorem di_range1 {a:Expr} {fa:DSt→Option (List R)} {p pos:Pos} (hg:Gl X "range") (hm:X.mg "range" = none) (ha:DA X [a] fa) (hs:starEach [a] X.env=[(false,eval a X.env)]:=by rfl):DI X tg (.Call (.Name "range" p) [a] [] pos) (dJ fa):=.mk <|
 (pi_range1 hg hm ha.go hs).weak fun σ H R ⟨Hs,δ,items,S,En,e,K⟩=>by
  unfold dJ at e
  cases ef:fa δ with
  | none=>rw [ef] at e;cases e
  | some rs=>
   rw [ef] at e
   refine ⟨Hs,δ,rs,S,En,ef,fun vs Hs1 H1 W1 R1=>?_⟩
   match rs,e,R1 with
   | [.sh (.int j)],e,⟨v,t,ev,q1,q2⟩=>
    have q2:t=[]:=q2
    have q1:Rep Hs1 (.int j) v:=q1
    unfold Rep at q1
    by_cases hj:-(2 ^ 62)≤j∧j<2 ^ 62
    ·
     simp only [Option.bind,if_pos hj] at e
     cases e
     exact ⟨j,by rw [ev,q1,q2],hj.1,hj.2,K _ Hs1 H1 W1 mn⟩
    ·
     simp only [Option.bind,if_neg hj] at e;cases e
end
def Res.loop (k:DSt→Option Res):Res→Option Res
 | .nx δ=>k δ
 | .ct δ=>k δ
 | .bk δ=>some (.nx δ)
 | .rt r=>some (.rt r)
 | .rn d=>some (.rn d)
def ba (g:GD) (body:FS):List D→DSt→Option Res
 | [],δ=>some (.nx δ)
 | d::r,δ=>(g d δ).bind fun δ1=>(body δ1).bind (Res.loop (ba g body r))
def bB (fi:DSt→Option (List D)) (g:GD) (body:FS):FS:=fun δ=>(fi δ).bind fun items=>ba g body items δ
theorem Wd.via {H0 Hs0 Hs1 H1 Hs H:Hp} (a:Wd H0 Hs0 Hs1 H1) (b:Wd H0 Hs1 Hs H):Wd H0 Hs0 Hs H:=
 ⟨b.keep,b.sub,a.base.trans b.base,fun c o e=>by
  rcases b.new c o e with q | q
  ·
   exact a.new c o q
  ·
   exact .inr q⟩
def cH (c:DSt→Option Bool) (body:FS):Nat→DSt→Option Res
 | 0,_=>none
 | n+1,δ=>(c δ).bind fun b=>if b=true then (body δ).bind (Res.loop (cH c body n)) else some (.nx δ)
section
variable {X:Cx} {tg iter:Expr} {body:List Stmt} {fi:DSt→Option (List D)} {ks:List Nat} {g:GD} {F:FS} {pos:Pos}
theorem ds_for (hp:PassesOwn (model X.prog X.w) X.A X.env X.xe) (hc:X.calm=true) (hi:DI X tg iter fi) (hg:DG X tg ks g) (hb:DSs X body F)
  (hs:∀ x,foldedSetIterable iter X.env x=pure x:=by intro _;rfl):DS X (.For tg iter body [] pos) (bB fi g F):=.mk fun H0 Hs0=>by
 have hb':PSs X body (fun D σ H=>∃ Hs1,tS H0 Hs1 F D σ H):=fun pins s σ H D I ⟨Hs1,h⟩=>hb.go H0 Hs1 pins s σ H D I h
 refine (ps_for hp hc hi.go hg.go hb' hs).weak fun D σ H ⟨Hs,δ,res,W,S,e,P⟩=>?_
 unfold bB at e
 cases ei:fi δ with
 | none=>rw [ei] at e;cases e
 | some items=>
  rw [ei] at e
  refine ⟨Hs,δ,items,W.sub,S.ent,ei,fun J Hs1 H1 W1 Y=>?_⟩
  have W01:=W.trans W1
  refine ⟨fun i m σ H=>m=items.length-i∧i≤items.length∧∃ Hs δ,Wd H0 Hs1 Hs H∧StR H0 Hs H δ σ∧ba g F (items.drop i) δ=some res,
   ⟨items.length,by simp,Nat.zero_le _,Hs1,δ,⟨W01.keep,W1.sub,.refl _,fun _ _ e=>.inl e⟩,S.mono W1,by simpa using e⟩,?_⟩
  rintro i m σ1 H2 ⟨rfl,hi.go,Hs2,δ1,W2,S2,e2⟩
  by_cases hlt:i<items.length
  ·
   have hd:items[i]?=some items[i]:=by simp [hlt]
   obtain ⟨go,yl⟩:=(Y i Hs2 H2 W2.base W2.sub).1 _ hd
   refine .inr ⟨go,fun σ' H'=>i+1≤items.length∧∃ Hs δ,Wd H0 Hs1 Hs H'∧StR H0 Hs H' δ σ'∧ba g F (items.drop (i+1)) δ=some res,fun σ' H' ⟨a,b⟩=>⟨_,by omega,rfl,a,b⟩,fun x H3 y=>?_⟩
   obtain ⟨Hs3,W3,rx⟩:=yl x H3 y
   have S3:=S2.mono W3
   rw [List.drop_eq_getElem_cons hlt] at e2
   unfold ba at e2
   cases eg:g items[i] δ1 with
   | none=>rw [eg] at e2;cases e2
   | some δ2=>
    rw [eg] at e2
    refine ⟨Hs3,δ1,items[i],δ2,W3.sub,S3.len,rx,eg,fun σ4 sr=>?_⟩
    replace e2:((F δ2).bind (Res.loop (ba g F (items.drop (i+1)))))=some res:=e2
    cases eF:F δ2 with
    | none=>rw [eF] at e2;cases e2
    | some r2=>
     rw [eF] at e2
     refine ⟨Hs1,Hs3,δ2,r2,W2.trans W3,sr.st S3,eF,?_⟩
     cases r2 with
     | nx δ3=>exact fun σ5 Hs5 H5 W5 S5=>⟨hlt,Hs5,δ3,W5,S5,e2⟩
     | ct δ3=>exact fun σ5 Hs5 H5 W5 S5=>⟨hlt,Hs5,δ3,W5,S5,e2⟩
     | bk δ3=>cases e2;exact fun σ5 Hs5 H5 W5 S5=>P σ5 Hs5 H5 (W01.via W5) S5
     | rt r=>cases e2;exact fun v Hs5 H5 W5 R5=>P v Hs5 H5 (W01.via W5) R5
     | rn d=>cases e2;exact fun v Hs5 H5 L W5 R5=>P v Hs5 H5 L (W01.via W5) R5
  ·
   have hi':i=items.length:=by omega
   subst hi'
   rw [List.drop_length] at e2
   cases e2
   exact .inl ⟨(Y _ Hs2 H2 W2.base W2.sub).2 (Nat.le_refl _),P σ1 Hs2 H2 (W01.via W2) S2⟩
theorem ds_while {c:Expr} {t:DSt→Option Bool} (n:Nat) (hp:PassesOwn (model X.prog X.w) X.A X.env X.xe) (hc:DT X c t) (hb:DSs X body F):DS X (.While c body [] pos) (cH t F n):=.mk fun H0 Hs0=>
 (ps_while hp hc.go (hb.go H0 Hs0)).weak fun D σ H ⟨Hs,δ,res,W,S,e,P⟩=>by
  refine ⟨fun m σ H=>∃ Hs δ,Wd H0 Hs0 Hs H∧StR H0 Hs H δ σ∧cH t F m δ=some res,⟨n,Hs,δ,W,S,e⟩,?_⟩
  rintro m σ1 H1 ⟨Hs1,δ1,W1,S1,e1⟩
  cases m with
  | zero=>cases e1
  | succ m=>
   unfold cH at e1
   cases et:t δ1 with
   | none=>rw [et] at e1;cases e1
   | some k=>
    rw [et] at e1
    refine ⟨Hs1,δ1,k,W1.sub,S1.ent,et,fun Hs2 H2 W2=>?_⟩
    cases k with
    | false=>cases e1;rw [if_neg Bool.false_ne_true];exact P σ1 Hs2 H2 (W1.trans W2) (S1.mono W2)
    | true=>
     rw [if_pos rfl]
     replace e1:((F δ1).bind (Res.loop (cH t F m)))=some res:=e1
     cases eF:F δ1 with
     | none=>rw [eF] at e1;cases e1
     | some r2=>
      rw [eF] at e1
      refine ⟨fun σ' H'=>∃ Hs δ,Wd H0 Hs0 Hs H'∧StR H0 Hs H' δ σ'∧cH t F m δ=some res,fun σ' H' h=>⟨m,Nat.lt_succ_self m,h⟩,Hs2,δ1,r2,W1.trans W2,S1.mono W2,eF,?_⟩
      cases r2 with
      | nx δ3=>exact fun σ5 Hs5 H5 W5 S5=>⟨Hs5,δ3,W5,S5,e1⟩
      | ct δ3=>exact fun σ5 Hs5 H5 W5 S5=>⟨Hs5,δ3,W5,S5,e1⟩
      | bk δ3=>cases e1;exact fun σ5 Hs5 H5 W5 S5=>P σ5 Hs5 H5 W5 S5
      | rt r=>cases e1;exact fun v Hs5 H5 W5 R5=>P v Hs5 H5 W5 R5
      | rn d=>cases e1;exact fun v Hs5 H5 L W5 R5=>P v Hs5 H5 L W5 R5
end
def dIn (m:Nat) (ix:List Nat) (δ:DSt):DSt:=List.replicate m none++ix.map fun i=>(δ[i]?).join
def cr (g:GD) (c:DSt→Option Bool) (fe:FE) (δ:DSt):List D→Option (List D)
 | []=>some []
 | d::r=>(g d δ).bind fun δ1=>(c δ1).bind fun b=>if b=true then (fe δ1).bind fun r1=>if r1.isBw=true then none else (cr g c fe δ r).bind fun t=>some (r1.view::t) else cr g c fe δ r
def bZ (fi:DSt→Option (List D)) (g:GD) (c:DSt→Option Bool) (fe:FE) (m:Nat) (ix:List Nat):FE:=fun δ=>(fi δ).bind fun items=>if items.length≤big then (cr g c fe (dIn m ix δ) items).map .fr else none
theorem entIn {Hs H:Hp} {δ:DSt} {σ:St} (m:Nat) (ix:List Nat) (h:eE Hs H δ σ):eE Hs H (dIn m ix δ) (e8 m ix σ):=fun j e q=>by
 unfold dIn at q
 unfold e8
 by_cases hj:j<m
 ·
  rw [List.getElem?_append_left (by simpa using hj),List.getElem?_replicate] at q
  split at q <;> cases q
 ·
  obtain ⟨k,rfl⟩ : ∃ k,j=m+k:=⟨j-m,by omega⟩
  rw [List.getElem?_append_right (by simp),List.length_replicate,Nat.add_sub_cancel_left,List.getElem?_map] at q ⊢
  cases hi:ix[k]? with
  | none=>rw [hi] at q;cases q
  | some i=>
   rw [hi] at q
   have q':(δ[i]?).join=some e:=by simpa using q
   have q'':δ[i]?=some (some e):=by
    cases z:δ[i]? with
    | none=>rw [z] at q';cases q'
    | some y=>rw [z] at q';simp at q';rw [q']
   obtain ⟨v,hv,hr⟩:=h i e q''
   exact ⟨v,by simp [hv],hr⟩
theorem dIn_own {m:Nat} {ix:List Nat} {δ:DSt} {j:Nat} {e:E} (h:(dIn m ix δ)[j]?=some (some e)):m≤j:=by
 rcases Nat.lt_or_ge j m with hj | hj
 ·
  unfold dIn at h
  rw [List.getElem?_append_left (by simpa using hj),List.getElem?_replicate] at h
  split at h <;> cases h
 ·
  exact hj
theorem tD_comp {fi:DSt→Option (List D)} {ks:List Nat} {g:GD} {c:DSt→Option Bool} {fe:FE} {m:Nat} {ix:List Nat} (hk:∀ j∈ks,j<m) {σ:St} {H:Hp} {Q:VK} (h:tD (bZ fi g c fe m ix) σ H Q) :
  tComp (tI fi) (tG ks g) (tDT c) (tD fe) m ix σ H Q:=by
 obtain ⟨Hs,δ,r,S,En,e,K⟩:=h
 unfold bZ at e
 cases ei:fi δ with
 | none=>rw [ei] at e;cases e
 | some items=>
  rw [ei] at e
  replace e:(if items.length≤big then (cr g c fe (dIn m ix δ) items).map R.fr else none)=some r:=e
  by_cases hbig:items.length≤big
  ·
   rw [if_pos hbig] at e
   cases em:cr g c fe (dIn m ix δ) items with
   | none=>rw [em] at e;cases e
   | some out=>
    rw [em] at e
    cases e
    refine ⟨Hs,δ,items,S,En,ei,fun J Hs1 H1 W1 Y A hA=>?_⟩
    have En1:eE Hs1 H1 (dIn m ix δ) (e8 m ix σ):=entIn m ix (En.mono W1)
    have len1:(e8 m ix σ).length=(dIn m ix δ).length:=by unfold e8 dIn;simp
    have hA1:Hs1 A=none:=W1.sub.free hA
    refine ⟨fun i n σ' H'=>n=items.length-i∧i≤items.length∧σ'.length=(dIn m ix δ).length∧(∀ j,m≤j→σ'[j]?=(e8 m ix σ)[j]?)∧
     ∃ Hs' ds vs rest,Wd H1 Hs1 Hs' H'∧Hs' A=none∧H' A=some (.lst vs)∧au Hs' ds vs∧ds.length≤i∧cr g c fe (dIn m ix δ) (items.drop i)=some rest∧out=ds++rest,?_,?_⟩
    ·
     refine ⟨items.length,by simp,Nat.zero_le _,len1,fun _ _=>rfl,Hs1,[],[],out,⟨.new hA,W1.sub.trans (.new hA),.refl _,fun _ _ e=>.inl e⟩,hA1,aA,.nil,Nat.zero_le _,by simpa using em,by simp⟩
    ·
     rintro i n σ1 H2 ⟨rfl,hi,hl1,hσ1,Hs2,ds,vs,rest,W2,hA2,hv2,r2,hd2,e2,eo⟩
     by_cases hlt:i<items.length
     ·
      have hd:items[i]?=some items[i]:=by simp [hlt]
      obtain ⟨go,yl⟩:=(Y i Hs2 H2 W2.base W2.sub).1 _ hd
      refine .inr ⟨go,fun σ' H'=>i+1≤items.length∧σ'.length=(dIn m ix δ).length∧(∀ j,m≤j→σ'[j]?=(e8 m ix σ)[j]?)∧
       ∃ Hs' ds vs rest,Wd H1 Hs1 Hs' H'∧Hs' A=none∧H' A=some (.lst vs)∧au Hs' ds vs∧ds.length≤i+1∧cr g c fe (dIn m ix δ) (items.drop (i+1))=some rest∧out=ds++rest,
       fun σ' H' ⟨a,b,c',d'⟩=>⟨_,by omega,rfl,a,b,c',d'⟩,fun x H3 y=>?_⟩
      obtain ⟨Hs3,W3,rx⟩:=yl x H3 y
      have W13:=W2.trans W3
      have A3:=W3.stay hv2 hA2
      have v3:=W3.keep _ _ hv2
      have En3:eE Hs3 H3 (dIn m ix δ) σ1:=fun j en q=>by
       obtain ⟨v,hv,hr⟩:=(En1.mono W13) j en q
       exact ⟨v,by rw [hσ1 j (dIn_own q)];exact hv,hr⟩
      rw [List.drop_eq_getElem_cons hlt] at e2
      unfold cr at e2
      cases eg:g items[i] (dIn m ix δ) with
      | none=>rw [eg] at e2;cases e2
      | some δ2=>
       rw [eg] at e2
       refine ⟨Hs3,_,items[i],δ2,W3.sub,hl1,rx,eg,fun σ4 sr=>?_⟩
       have hl4:σ4.length=(dIn m ix δ).length:=by rw [sr.lenS];exact hl1
       have hσ4:∀ j,m≤j→σ4[j]?=(e8 m ix σ)[j]?:=fun j hj=>by
        rw [(sr.out j fun z=>Nat.not_lt.mpr hj (hk j z)).2];exact hσ1 j hj
       have En4:eE Hs3 H3 δ2 σ4:=sr.ent En3
       replace e2:((c δ2).bind fun b=>if b=true then (fe δ2).bind fun r1=>if r1.isBw=true then none else (cr g c fe (dIn m ix δ) (items.drop (i+1))).bind fun t=>some (r1.view::t) else cr g c fe (dIn m ix δ) (items.drop (i+1)))=some rest:=e2
       cases ec:c δ2 with
       | none=>rw [ec] at e2;cases e2
       | some b=>
        rw [ec] at e2
        refine ⟨Hs3,δ2,b,W3.sub,En4,ec,fun Hs5 H5 W5=>?_⟩
        have W15:=W13.trans W5
        have A5:=W5.stay v3 A3
        have v5:=W5.keep _ _ v3
        cases b with
        | false=>
         simp only [Bool.false_eq_true,if_false]
         exact ⟨hlt,hl4,hσ4,Hs5,ds,vs,rest,W15,A5,v5,au.mono (W3.base.trans W5.base) _ r2,by omega,e2,eo⟩
        | true=>
         simp only [if_true]
         replace e2:((fe δ2).bind fun r1=>if r1.isBw=true then none else (cr g c fe (dIn m ix δ) (items.drop (i+1))).bind fun t=>some (r1.view::t))=some rest:=e2
         cases ef:fe δ2 with
         | none=>rw [ef] at e2;cases e2
         | some r1=>
          rw [ef] at e2
          replace e2:(if r1.isBw=true then none else (cr g c fe (dIn m ix δ) (items.drop (i+1))).bind fun t=>some (r1.view::t))=some rest:=e2
          by_cases hb:r1.isBw=true
          ·
           rw [if_pos hb] at e2;cases e2
          ·
           rw [if_neg hb] at e2
           cases er:cr g c fe (dIn m ix δ) (items.drop (i+1)) with
           | none=>rw [er] at e2;cases e2
           | some t=>
            rw [er] at e2
            cases e2
            refine ⟨Hs5,δ2,r1,W5.sub,En4.mono W5,ef,fun v Hs6 H6 W6 R6=>?_⟩
            obtain ⟨Hs7,q7,W7⟩:=R6.share W6 (fun ds z=>hb (by rw [z];rfl))
            have A7:=W7.stay v5 A5
            have v7:=W7.keep _ _ v5
            have W17:=W15.trans W7
            have nA:H1 A=none:=hA
            refine ⟨vs,v7,?_,hlt,hl4,hσ4,Hs7,ds++[r1.view],vs++[v],t,⟨fun b o q=>?_,fun b o q=>?_,W17.base,W17.new⟩,A7,aA,?_,by simp;omega,rfl,by rw [eo];simp⟩
            ·
             rw [r2.length];exact Nat.lt_of_le_of_lt hd2 (Nat.lt_trans hlt (bP hbig))
            ·
             rw [aB (aO q nA)];exact W17.keep _ _ q
            ·
             rw [aB (aO q A7)];exact W17.sub _ _ q
            ·
             exact au.append (au.mono (W3.base.trans (W5.base.trans W7.base)) _ r2) (.cons q7 .nil)
     ·
      have hi':i=items.length:=by omega
      subst hi'
      rw [List.drop_length] at e2
      cases e2
      refine .inl ⟨(Y _ Hs2 H2 W2.base W2.sub).2 (Nat.le_refl _),K _ Hs2 H2 (W1.trans W2) ⟨A,vs,rfl,W1.keep.free hA,hA2,hv2,?_⟩⟩
      rw [eo,List.append_nil]
      exact r2
  ·
   rw [if_neg hbig] at e;cases e
section
variable {X:Cx} {tg elt iter:Expr} {ifs:List Expr} {scope:Scope} {pos:Pos} {N:List Str} {m:Nat} {ix:List Nat} {ks:List Nat} {g:GD} {c:DSt→Option Bool} {fe:FE} {fi:DSt→Option (List D)}
structure DIfs (X:Cx) (ifs:List Expr) (c:DSt→Option Bool):Prop where
 go:PIfs X ifs (tDT c)
def eH:DSt→Option Bool:=fun _=>some true
theorem dz:DIfs X [] eH:=.mk <| fun pins s σ H Q I ⟨Hs,δ,b,S,En,e,K⟩=>by
 cases e
 exact pifs_nil pins s σ H Q I (K Hs H (.refl S))
theorem eN {e:Expr} (h:DT X e c):DIfs X [e] c:=.mk <| pifs_one h.go
theorem de_comp (hc:X.calm=true) (S:c6 X N m ix scope) (hk:∀ j∈ks,j<m) (hi:DI X tg iter fi)
  (hin:∀ cl C s H fp,DG (be X N scope cl C s H fp) tg ks g∧DIfs (be X N scope cl C s H fp) ifs c∧DE (be X N scope cl C s H fp) elt fe)
  (hs:∀ x,foldedSetIterable iter X.env x=pure x:=by intro _;rfl):DE X (.ListComp elt [⟨tg,iter,ifs,0⟩] scope pos) (bZ fi g c fe m ix):=.mk <|
 (pe_comp hc S hi.go (fun cl C s H fp=>⟨(hin cl C s H fp).1.go,(hin cl C s H fp).2.1.go,(hin cl C s H fp).2.2.go⟩) hs).weak fun _ _ _=>tD_comp hk
theorem ds_comp {y:Str} {py spos:Pos} {iy:Nat} (hc:X.calm=true) (S:c6 X N m ix scope) (hk:∀ j∈ks,j<m) (hi:DI X tg iter fi)
  (hin:∀ cl C s H fp,DG (be X N scope cl C s H fp) tg ks g∧DIfs (be X N scope cl C s H fp) ifs c∧DE (be X N scope cl C s H fp) elt fe)
  (hN:X.N.Nodup) (hiy:X.N[iy]?=some y) (hy:Loc X.env.scope y)
  (hsw:swapsWith (.ListComp elt [⟨tg,iter,ifs,0⟩] scope pos) (some (.Name y py)) spos.line X.env=pure true:=by rfl)
  (hf:X.fn y=true∨X.env.scope.names.lookup y=some .local:=by first | exact .inl rfl | exact .inr rfl | assumption)
  (hs:∀ x,foldedSetIterable iter X.env x=pure x:=by intro _;rfl):DS X (.Assign [.Name y py] (.ListComp elt [⟨tg,iter,ifs,0⟩] scope pos) spos) (sset iy (bZ fi g c fe m ix)):=.mk fun H0 Hs0=>
 (ps_comp hc S hi.go (fun cl C s H fp=>⟨(hin cl C s H fp).1.go,(hin cl C s H fp).2.1.go,(hin cl C s H fp).2.2.go⟩) hN hiy hy hsw hf hs).weak fun D σ H h=>tD_comp hk (ts_set h)
end
def run (k:Nat) (F:FS) (ds:List D):Option D:=match F (ds.map (fun d=>some (.sh d))++List.replicate (k-ds.length) none) with
 | some (.rt r)=>if r.isBw=true then none else some r.view
 | some (.nx _)=>some .non
 | some (.rn d)=>some d
 | _=>none
theorem ny {Hs H:Hp} {N:List Str} {ds:List D} {vs:List V} (r:au Hs ds vs):StR H Hs H (ds.map (fun d=>some (E.sh d))++List.replicate (N.length-ds.length) none) (L2.start N vs):=by
 have get:∀ (i:Nat) (e:E),(ds.map (fun d=>some (E.sh d))++List.replicate (N.length-ds.length) none)[i]?=some (some e)→∃ d,ds[i]?=some d∧e=E.sh d:=fun i e h=>by
  by_cases hi:i<ds.length
  ·
   rw [List.getElem?_append_left (by simpa using hi),List.getElem?_map] at h
   cases q:ds[i]? with
   | none=>rw [q] at h;cases h
   | some d=>rw [q] at h;cases h;exact ⟨d,rfl,rfl⟩
  ·
   rw [List.getElem?_append_right (by simpa using hi),List.getElem?_replicate] at h
   split at h <;> cases h
 refine ⟨fun i e h=>?_,?_,fun i e v b h _ f=>?_,fun i j e e' v v' b _ h _ _ _ f=>?_⟩
 ·
  obtain ⟨d,hd,rfl⟩:=get i e h
  obtain ⟨v,hv,rv⟩:=r.get hd
  refine ⟨v,?_,rv⟩
  unfold L2.start
  have hi:i<vs.length:=(List.getElem?_eq_some_iff.mp hv).1
  rw [List.getElem?_append_left (by simpa using hi),List.getElem?_map,hv]
  rfl
 ·
  unfold L2.start
  simp [r.length]
 ·
  obtain ⟨d,_,z⟩:=get i _ h;rw [z] at f;cases f
 ·
  obtain ⟨d,_,z⟩:=get i _ h;rw [z] at f;cases f
section
variable {P:Program} {w:World} {K:PySem.W.Frag} {mg:Str→Option Value} {base:Heap}
theorem fn_D {x qual:Str} {st:Stmt} {f:Addr} {fd:FuncData} {N ps:List Str} {k:Nat} {F:FS} (F0:Fun K x qual st f fd) (S:dN N ps (ap st))
  (h:∀ (cdv:Value) (A:Around) (outer:List Env) (s:Shared) (H:Hp) (E:XK),bq k (A.deeper (PyProof.Rows.envOfC qual (ap st) s.heap.objs.size f cdv))→DSs (jr CX0 P w K mg base N qual (ap st) f cdv A outer s H E).nox (aP st) F) :
  dM P w K mg base CX0 (k+1) f fd ps (spD ps.length (run N.length F)):=by
 refine F0.ok S (fun vs H Q E hs=>spD_len hs) (fun cdv A outer s H vs Q E hr hs=>?_)
 obtain ⟨Hs,ds,d,hl,sub,r,em,post⟩:=hs
 refine ⟨_,(h cdv A outer s H E hr).go H Hs,?_⟩
 unfold run at em
 cases eF:F (ds.map (fun d=>some (.sh d))++List.replicate (N.length-ds.length) none) with
 | none=>rw [eF] at em;cases em
 | some res=>
  rw [eF] at em
  refine ⟨Hs,_,res,.refl sub,ny r,eF,?_⟩
  cases res with
  | nx δ=>
   cases em
   exact fun σ Hs1 H1 W1 _=>post .non Hs1 H1 W1 (by unfold Rep;rfl)
  | rt r1=>
   replace em:(if r1.isBw=true then none else some r1.view)=some d:=em
   by_cases hb:r1.isBw=true
   ·
    rw [if_pos hb] at em;cases em
   ·
    rw [if_neg hb] at em
    cases em
    intro v Hs1 H1 W1 R1
    obtain ⟨Hs2,q,W2⟩:=R1.share W1 (fun ds z=>hb (by rw [z];rfl))
    exact post v Hs2 H1 W2 q
  | bk δ=>cases em
  | ct δ=>cases em
  | rn d'=>
   cases em
   intro v Hs1 H1 L W1 O n
   obtain ⟨Hs2,q,s1,s2,s3⟩:=O.share W1.sub fun a ha=>(n a ha).2
   exact post v Hs2 H1 ⟨W1.keep,s1,W1.base.trans s2,fun a o e=>(s3 a o e).elim (W1.new a o) fun z=>.inr (n a z).1⟩ q
end
end Ew
end
section
set_option Elab.async false
set_option linter.all false
set_option maxRecDepth 100000
namespace Ew
open PySem PySem.Spec L2
mutual
def D.py:D→PyData
 | .non=>.none
 | .bl b=>.bool b
 | .int i=>.int i
 | .str x=>.str x
 | .lst xs=>.list (pys xs)
 | .tup xs=>.tuple (pys xs)
 | .obj _ _=>.none
def pys:List D→List PyData
 | []=>[]
 | x::xs=>D.py x::pys xs
end
mutual
def D.plain:D→Bool
 | .non=>true
 | .bl _=>true
 | .int _=>true
 | .str _=>true
 | .lst xs=>fX xs
 | .tup xs=>fX xs
 | .obj _ _=>false
def fX:List D→Bool
 | []=>true
 | x::xs=>D.plain x&&fX xs
end
section
variable {X:Cx} {pins:List (Addr×Obj)} {σ:St} {H Hs:Hp} {s:Shared}
mutual
theorem nz (I:L2.Inv X pins σ H s) (S:aG Hs H):∀ (d:D) {v:V} {u:Value},d.plain=true→Rep Hs d v→RelV v u→∃ as,Reads s.heap u d.py as
 | .non,v,u,_,h,r=>by unfold Rep at h;subst h;cases (show u=Value.none from r);unfold D.py;exact ⟨_,.none⟩
 | .bl b,v,u,_,h,r=>by unfold Rep at h;subst h;cases (show u=Value.bool b from r);unfold D.py;exact ⟨_,.bool b⟩
 | .int i,v,u,_,h,r=>by unfold Rep at h;subst h;obtain ⟨t,rfl⟩:=r;unfold D.py;exact ⟨_,.int i t⟩
 | .str x,v,u,_,h,r=>by unfold Rep at h;subst h;obtain ⟨t,rfl⟩:=r;unfold D.py;exact ⟨_,.str x t⟩
 | .lst ds,v,u,p,h,r=>by
  unfold Rep at h
  obtain ⟨a,vs,rfl,h1,h2⟩:=h
  cases (show u=Value.ref a from r)
  obtain ⟨z,its,n,rv,e⟩:=I.hok a _ (S _ _ h1)
  unfold D.plain at p
  obtain ⟨as,q⟩:=eA I S ds p h2 rv
  unfold D.py
  exact ⟨_,.list e rfl rfl (by simpa using q)⟩
 | .tup ds,v,u,p,h,r=>by
  unfold Rep at h
  obtain ⟨a,vs,rfl,h1,h2⟩:=h
  cases (show u=Value.ref a from r)
  obtain ⟨z,its,rv,o,e,c,n,hd⟩:=I.hok a _ (S _ _ h1)
  unfold D.plain at p
  obtain ⟨as,q⟩:=eA I S ds p h2 rv
  unfold D.py
  exact ⟨_,.tuple e c hd (by simpa using q)⟩
 | .obj _ _,v,u,p,h,r=>by unfold D.plain at p;cases p
theorem eA (I:L2.Inv X pins σ H s) (S:aG Hs H):∀ (ds:List D) {vs:List V} {us:List Value},fX ds=true→au Hs ds vs→aF vs us→∃ as,ReadsAll s.heap us (pys ds) as
 | [],vs,us,_,h,r=>by unfold au at h;subst h;cases r;unfold pys;exact ⟨_,.nil⟩
 | d::ds,vs,us,p,h,r=>by
  unfold au at h
  obtain ⟨v,t,rfl,h1,h2⟩:=h
  unfold fX at p
  rw [Bool.and_eq_true] at p
  cases r with
  | cons r1 r2=>
   obtain ⟨as,q1⟩:=nz I S d p.1 h1 r1
   obtain ⟨bs,q2⟩:=eA I S ds p.2 h2 r2
   unfold pys
   exact ⟨_,.cons q1 q2⟩
end
theorem bf (I:L2.Inv X pins σ H s) (S:aG Hs H) (d:D) {v:V} {u:Value} (p:d.plain=true) (h:View Hs H d v) (r:RelV v u):∃ as,Reads s.heap u d.py as:=by
 rcases h with h | ⟨ds,a,vs,rfl,rfl,h1,h2⟩
 ·
  exact nz I S d p h r
 ·
  cases (show u=Value.ref a from r)
  obtain ⟨z,its,n,rv,e⟩:=I.hok a _ h1
  unfold D.plain at p
  obtain ⟨as,q⟩:=eA I S ds p h2 rv
  unfold D.py
  exact ⟨_,.list e rfl rfl (by simpa using q)⟩
end
def okD (d:D):Bool:=d.plain&&(d.py.canLay0&&decide (d.py.depth≤16))
theorem bC {d:D} (h:okD d=true):d.plain=true∧d.py.canLay0=true∧d.py.depth≤16:=by
 unfold okD at h
 rw [Bool.and_eq_true,Bool.and_eq_true] at h
 exact ⟨h.1,h.2.1,of_decide_eq_true h.2.2⟩
theorem gm {d:D} (h:okD d=true):SeqAt.shaped d.py=true:=by
 obtain ⟨_,h1,h2⟩:=bC h
 unfold SeqAt.shaped
 rw [Bool.and_eq_true]
 exact ⟨h1,decide_eq_true (by omega)⟩
def eqP (a b:D):Bool:=PyData.eqv a.py b.py
def oEq (a b:D):Option R:=if okD a=true∧okD b=true then some (.sh (.bl (eqP a b))) else none
def oNe (a b:D):Option R:=if okD a=true∧okD b=true then some (.sh (.bl (!eqP a b))) else none
def oIn (x c:D):Option R:=match c with
 | .lst ys=>if okD x=true∧okD c=true then some (.sh (.bl (ys.any fun y=>eqP y x))) else none
 | .tup ys=>if okD x=true∧okD c=true then some (.sh (.bl (ys.any fun y=>eqP y x))) else none
 | _=>none
def oNotIn (x c:D):Option R:=match c with
 | .lst ys=>if okD x=true∧okD c=true then some (.sh (.bl (!ys.any fun y=>eqP y x))) else none
 | .tup ys=>if okD x=true∧okD c=true then some (.sh (.bl (!ys.any fun y=>eqP y x))) else none
 | _=>none
def bI:D→D→Option R
 | .int i,.int j=>some (.sh (.int (i+j)))
 | .lst xs,.lst ys=>if xs.length+ys.length≤big then some (.fr (xs++ys)) else none
 | .str x,.str y=>if x.length+y.length≤big then some (.sh (.str (x++y))) else none
 | _,_=>none
def oSub:D→D→Option R
 | .int i,.int j=>some (.sh (.int (i-j)))
 | _,_=>none
def bQ:D→D→Option R
 | .int i,.int j=>if (-(2 ^ 64)<i∧i<2 ^ 64)∨(-(2 ^ 64)<j∧j<2 ^ 64) then some (.sh (.int (i*j))) else none
 | .lst xs,.int k=>if k≤1000∧-1000≤k∧xs.length*k.toNat≤big then some (.fr (List.replicate k.toNat xs).flatten) else none
 | _,_=>none
def oMod:D→D→Option R
 | .int i,.int j=>if 0<j then some (.sh (.int (i % j))) else none
 | _,_=>none
def oLt:D→D→Option R
 | .int i,.int j=>some (.sh (.bl (decide (i<j))))
 | _,_=>none
def oLe:D→D→Option R
 | .int i,.int j=>some (.sh (.bl (decide (i≤j))))
 | _,_=>none
def oGt:D→D→Option R
 | .int i,.int j=>some (.sh (.bl (decide (j<i))))
 | _,_=>none
def oGe:D→D→Option R
 | .int i,.int j=>some (.sh (.bl (decide (j≤i))))
 | _,_=>none
def oIx:D→D→Option R
 | .lst xs,.int i=>(atI xs i).map .sh
 | .tup xs,.int i=>(atI xs i).map .sh
 | _,_=>none
def bx:D→Option R
 | .lst xs=>some (.sh (.int xs.length))
 | .tup xs=>some (.sh (.int xs.length))
 | .str x=>if x.length≤big then some (.sh (.int x.length)) else none
 | _=>none
def gw:D→Option R
 | .lst xs=>some (.fr xs)
 | .tup xs=>some (.fr xs)
 | _=>none
def eO:D→D→Option R
 | .int i,.int j=>some (.sh (.int (if j<i then j else i)))
 | _,_=>none
def gA:D→D→Option R
 | .int i,.int j=>some (.sh (.int (if j>i then j else i)))
 | _,_=>none
theorem ff:∀ ds:List D,pys ds=ds.map D.py
 | []=>by unfold pys;rfl
 | d::ds=>by unfold pys;rw [ff ds];rfl
section
variable {X:Cx}
theorem op_oEq (hu:X.A.units+64<cLine):OpR X (compareOp .Eq) (rD oEq):=by
 intro pins s σ H x y v u Q I rx ry h
 obtain ⟨Hs,a,b,r,S,va,vb,e,K⟩:=h
 unfold oEq at e
 by_cases hc:okD a=true∧okD b=true
 ·
  rw [if_pos hc] at e
  cases e
  obtain ⟨as,ra⟩:=bf I S a (bC hc.1).1 va rx
  obtain ⟨bs,rb⟩:=bf I S b (bC hc.2).1 vb ry
  exact SeqAt.compareEq_shaped ra rb (gm hc.1) (gm hc.2) hu ⟨.bl _,H,I,rfl,K _ Hs H (.refl S) (shB _ _ _ _)⟩
 ·
  rw [if_neg hc] at e;cases e
theorem op_oNe (hu:X.A.units+64<cLine):OpR X (compareOp .NotEq) (rD oNe):=by
 intro pins s σ H x y v u Q I rx ry h
 obtain ⟨Hs,a,b,r,S,va,vb,e,K⟩:=h
 unfold oNe at e
 by_cases hc:okD a=true∧okD b=true
 ·
  rw [if_pos hc] at e
  cases e
  obtain ⟨as,ra⟩:=bf I S a (bC hc.1).1 va rx
  obtain ⟨bs,rb⟩:=bf I S b (bC hc.2).1 vb ry
  exact SeqAt.compareNe_shaped ra rb (gm hc.1) (gm hc.2) hu ⟨.bl _,H,I,rfl,K _ Hs H (.refl S) (shB _ _ _ _)⟩
 ·
  rw [if_neg hc] at e;cases e
theorem ib {ys:List D} (h:okD (.lst ys)=true):PyData.canLayAll0 (pys ys)=true∧PyData.depthAll (pys ys)≤16:=by
 obtain ⟨_,h1,h2⟩:=bC h
 unfold D.py at h1 h2
 unfold PyData.canLay0 at h1
 unfold PyData.depth at h2
 exact ⟨h1,by omega⟩
theorem jU {ys:List D} (h:okD (.tup ys)=true):PyData.canLayAll0 (pys ys)=true∧PyData.depthAll (pys ys)≤16:=by
 obtain ⟨_,h1,h2⟩:=bC h
 unfold D.py at h1 h2
 unfold PyData.canLay0 at h1
 unfold PyData.depth at h2
 exact ⟨h1,by omega⟩
theorem jV (x:D) (ys:List D):((pys ys).any fun y=>PyData.eqv y x.py)=ys.any fun y=>eqP y x:=by
 rw [ff,List.any_map];rfl
theorem op_oIn (hu:X.A.units+64<cLine):OpR X (compareOp .In) (rD oIn):=by
 intro pins s σ H x y v u Q I rx ry h
 obtain ⟨Hs,a,b,r,S,va,vb,e,K⟩:=h
 have room:∀ ys:List PyData,PyData.depthAll ys≤16→X.A.units+1+min (PyData.depthAll ys) a.py.depth<cLine:=fun ys hy=>by
  have:min (PyData.depthAll ys) a.py.depth≤PyData.depthAll ys:=Nat.min_le_left _ _
  omega
 cases b with
 | lst ys=>
  unfold oIn at e
  by_cases hc:okD a=true∧okD (.lst ys)=true
  ·
   simp only [if_pos hc] at e
   cases e
   obtain ⟨as,ra⟩:=bf I S a (bC hc.1).1 va rx
   obtain ⟨bs,rb⟩:=bf I S _ (bC hc.2).1 vb ry
   unfold D.py at rb
   refine SeqAt.in_list_reads rb ra (ib hc.2).1 (bC hc.1).2.1 (room _ (ib hc.2).2) ⟨.bl _,H,I,rfl,?_⟩
   rw [jV]
   exact K _ Hs H (.refl S) (shB _ _ _ _)
  ·
   simp only [if_neg hc] at e;cases e
 | tup ys=>
  unfold oIn at e
  by_cases hc:okD a=true∧okD (.tup ys)=true
  ·
   simp only [if_pos hc] at e
   cases e
   obtain ⟨as,ra⟩:=bf I S a (bC hc.1).1 va rx
   obtain ⟨bs,rb⟩:=bf I S _ (bC hc.2).1 vb ry
   unfold D.py at rb
   refine SeqAt.in_tuple_reads rb ra (jU hc.2).1 (bC hc.1).2.1 (room _ (jU hc.2).2) ⟨.bl _,H,I,rfl,?_⟩
   rw [jV]
   exact K _ Hs H (.refl S) (shB _ _ _ _)
  ·
   simp only [if_neg hc] at e;cases e
 | _=>cases e
theorem op_oNotIn (hu:X.A.units+64<cLine):OpR X (compareOp .NotIn) (rD oNotIn):=by
 intro pins s σ H x y v u Q I rx ry h
 obtain ⟨Hs,a,b,r,S,va,vb,e,K⟩:=h
 have room:∀ ys:List PyData,PyData.depthAll ys≤16→X.A.units+1+min (PyData.depthAll ys) a.py.depth<cLine:=fun ys hy=>by
  have:min (PyData.depthAll ys) a.py.depth≤PyData.depthAll ys:=Nat.min_le_left _ _
  omega
 cases b with
 | lst ys=>
  unfold oNotIn at e
  by_cases hc:okD a=true∧okD (.lst ys)=true
  ·
   simp only [if_pos hc] at e
   cases e
   obtain ⟨as,ra⟩:=bf I S a (bC hc.1).1 va rx
   obtain ⟨bs,rb⟩:=bf I S _ (bC hc.2).1 vb ry
   unfold D.py at rb
   refine SeqAt.notIn_list_reads rb ra (ib hc.2).1 (bC hc.1).2.1 (room _ (ib hc.2).2) ⟨.bl _,H,I,rfl,?_⟩
   rw [jV]
   exact K _ Hs H (.refl S) (shB _ _ _ _)
  ·
   simp only [if_neg hc] at e;cases e
 | tup ys=>
  unfold oNotIn at e
  by_cases hc:okD a=true∧okD (.tup ys)=true
  ·
   simp only [if_pos hc] at e
   cases e
   obtain ⟨as,ra⟩:=bf I S a (bC hc.1).1 va rx
   obtain ⟨bs,rb⟩:=bf I S _ (bC hc.2).1 vb ry
   unfold D.py at rb
   refine SeqAt.notIn_tuple_reads rb ra (jU hc.2).1 (bC hc.1).2.1 (room _ (jU hc.2).2) ⟨.bl _,H,I,rfl,?_⟩
   rw [jV]
   exact K _ Hs H (.refl S) (shB _ _ _ _)
  ·
   simp only [if_neg hc] at e;cases e
 | _=>cases e
theorem b7:OpR X (binaryOp .Add) (rD bI):=by
 intro pins s σ H x y v u Q I rx ry h
 obtain ⟨Hs,a,b,r,S,va,vb,e,K⟩:=h
 match a,b,e,va,vb with
 | .int i,.int j,e,va,vb=>
  cases e
  exact op_add pins s σ H x y v u Q I rx ry ⟨i,j,va.int,vb.int,K _ Hs H (.refl S) (shI _ _ _ _)⟩
 | .lst xs,.lst ys,e,va,vb=>
  by_cases hc:xs.length+ys.length≤big
  ·
   simp only [bI,if_pos hc] at e
   cases e
   obtain ⟨a,vs,ea,h1,h2⟩:=va.lst S
   obtain ⟨b,us,eb,h3,h4⟩:=vb.lst S
   refine op_cat pins s σ H x y v u Q I rx ry ⟨a,b,vs,us,ea,eb,h1,h3,?_,fun p hp=>?_⟩
   ·
    rw [h2.length,h4.length];exact Nat.le_of_lt (bP hc)
   ·
    exact K (.ref p) Hs _ (.fresh S hp) ⟨p,_,rfl,hp,S.free hp,aA,h2.append h4⟩
  ·
   simp only [bI,if_neg hc] at e;cases e
 | .str i,.str j,e,va,vb=>
  by_cases hc:i.length+j.length≤big
  ·
   simp only [bI,if_pos hc] at e
   cases e
   exact oR pins s σ H x y v u Q I rx ry ⟨i,j,va.str,vb.str,Nat.le_of_lt (bP hc),K _ Hs H (.refl S) (shS _ _ _ _)⟩
  ·
   simp only [bI,if_neg hc] at e;cases e
theorem mo:OpR X (binaryOp .Sub) (rD oSub):=by
 intro pins s σ H x y v u Q I rx ry h
 obtain ⟨Hs,a,b,r,S,va,vb,e,K⟩:=h
 match a,b,e,va,vb with
 | .int i,.int j,e,va,vb=>
  cases e
  exact op_sub pins s σ H x y v u Q I rx ry ⟨i,j,va.int,vb.int,K _ Hs H (.refl S) (shI _ _ _ _)⟩
theorem gp:OpR X (binaryOp .Mod) (rD oMod):=by
 intro pins s σ H x y v u Q I rx ry h
 obtain ⟨Hs,a,b,r,S,va,vb,e,K⟩:=h
 match a,b,e,va,vb with
 | .int i,.int j,e,va,vb=>
  by_cases hc:0<j
  ·
   simp only [oMod,if_pos hc] at e
   cases e
   exact op_mod pins s σ H x y v u Q I rx ry ⟨i,j,va.int,vb.int,hc,K _ Hs H (.refl S) (shI _ _ _ _)⟩
  ·
   simp only [oMod,if_neg hc] at e;cases e
theorem dh:OpR X (binaryOp .Mult) (rD bQ):=by
 intro pins s σ H x y v u Q I rx ry h
 obtain ⟨Hs,a,b,r,S,va,vb,e,K⟩:=h
 match a,b,e,va,vb with
 | .int i,.int j,e,va,vb=>
  by_cases hc:(-(2 ^ 64)<i∧i<2 ^ 64)∨(-(2 ^ 64)<j∧j<2 ^ 64)
  ·
   simp only [bQ,if_pos hc] at e
   cases e
   exact op_mul pins s σ H x y v u Q I rx ry ⟨i,j,va.int,vb.int,hc,K _ Hs H (.refl S) (shI _ _ _ _)⟩
  ·
   simp only [bQ,if_neg hc] at e;cases e
 | .lst xs,.int k,e,va,vb=>
  by_cases hc:k≤1000∧-1000≤k∧xs.length*k.toNat≤big
  ·
   simp only [bQ,if_pos hc] at e
   cases e
   obtain ⟨a,vs,ea,h1,h2⟩:=va.lst S
   have rr:∀ n:Nat,au Hs (List.replicate n xs).flatten (List.replicate n vs).flatten:=fun n=>by
    induction n with
    | zero=>exact .nil
    | succ n ih=>rw [List.replicate_succ,List.replicate_succ,List.flatten_cons,List.flatten_cons];exact h2.append ih
   refine op_rep pins s σ H x y v u Q I rx ry ⟨a,k,vs,ea,vb.int,h1,by omega,by omega,?_,fun p hp=>?_⟩
   ·
    rw [h2.length];exact Nat.le_of_lt (bP hc.2.2)
   ·
    exact K (.ref p) Hs _ (.fresh S hp) ⟨p,_,rfl,hp,S.free hp,aA,rr _⟩
  ·
   simp only [bQ,if_neg hc] at e;cases e
theorem c9:OpR X (compareOp .Lt) (rD oLt):=by
 intro pins s σ H x y v u Q I rx ry h
 obtain ⟨Hs,a,b,r,S,va,vb,e,K⟩:=h
 match a,b,e,va,vb with
 | .int i,.int j,e,va,vb=>cases e;exact op_lt pins s σ H x y v u Q I rx ry ⟨i,j,va.int,vb.int,K _ Hs H (.refl S) (shB _ _ _ _)⟩
theorem mq:OpR X (compareOp .LtE) (rD oLe):=by
 intro pins s σ H x y v u Q I rx ry h
 obtain ⟨Hs,a,b,r,S,va,vb,e,K⟩:=h
 match a,b,e,va,vb with
 | .int i,.int j,e,va,vb=>cases e;exact op_le pins s σ H x y v u Q I rx ry ⟨i,j,va.int,vb.int,K _ Hs H (.refl S) (shB _ _ _ _)⟩
theorem gL:OpR X (compareOp .Gt) (rD oGt):=by
 intro pins s σ H x y v u Q I rx ry h
 obtain ⟨Hs,a,b,r,S,va,vb,e,K⟩:=h
 match a,b,e,va,vb with
 | .int i,.int j,e,va,vb=>cases e;exact op_gt pins s σ H x y v u Q I rx ry ⟨i,j,va.int,vb.int,K _ Hs H (.refl S) (shB _ _ _ _)⟩
theorem nB {H:Hp} {ds:List D} {vs:List V} {i:Int} {d:D} (r:au H ds vs) (h:atI ds i=some d):∃ v,atI vs i=some v∧Rep H d v:=by
 unfold atI at h ⊢
 rw [r.length]
 cases e:ixN ds.length i with
 | none=>rw [e] at h;cases h
 | some j=>
  rw [e] at h
  exact r.get h
theorem ix_oIx:IxR X (rD oIx):=by
 intro value slice pins s σ H x y v u Q I rx ry h hs
 obtain ⟨Hs,a,b,r,S,va,vb,e,K⟩:=h
 match a,b,e,va,vb with
 | .lst xs,.int i,e,va,vb=>
  cases ea:atI xs i with
  | none=>simp only [oIx,ea] at e;cases e
  | some d=>
   simp only [oIx,ea] at e
   cases e
   obtain ⟨a,vs,eq,h1,h2⟩:=va.lst S
   obtain ⟨w,q1,q2⟩:=nB h2 ea
   exact ix_list value slice pins s σ H x y v u Q I rx ry ⟨a,vs,i,w,eq,vb.int,.of h1,q1,K w Hs H (.refl S) q2⟩ hs
 | .tup xs,.int i,e,va,vb=>
  cases ea:atI xs i with
  | none=>simp only [oIx,ea] at e;cases e
  | some d=>
   simp only [oIx,ea] at e
   cases e
   obtain ⟨a,vs,eq,h1,h2⟩:=va.tup S
   obtain ⟨w,q1,q2⟩:=nB h2 ea
   exact ix_tup value slice pins s σ H x y v u Q I rx ry ⟨a,vs,i,w,eq,vb.int,.of h1,q1,K w Hs H (.refl S) q2⟩ hs
theorem c_len:cN X (.builtin "len") (rC1 bx):=by
 intro pins s σ H xs us Q I rv h
 obtain ⟨x,rfl,Hs,d,r,S,vd,e,K⟩:=h
 match d,e,vd with
 | .lst ds,e,vd=>
  cases e
  obtain ⟨a,vs,eq,h1,h2⟩:=vd.lst S
  exact e7 pins s σ H _ us Q I rv ⟨a,vs,by rw [eq],.inl (.of h1),by rw [h2.length];exact K _ Hs H (.refl S) (shI _ _ _ _)⟩
 | .tup ds,e,vd=>
  cases e
  obtain ⟨a,vs,eq,h1,h2⟩:=vd.tup S
  exact e7 pins s σ H _ us Q I rv ⟨a,vs,by rw [eq],.inr (.of h1),by rw [h2.length];exact K _ Hs H (.refl S) (shI _ _ _ _)⟩
 | .str z,e,vd=>
  by_cases hc:z.length≤big
  ·
   simp only [bx,if_pos hc] at e
   cases e
   exact md pins s σ H _ us Q I rv ⟨z,by rw [vd.str],Nat.le_of_lt (bP hc),K _ Hs H (.refl S) (shI _ _ _ _)⟩
  ·
   simp only [bx,if_neg hc] at e;cases e
theorem kj:cN X (.type "list") (rC1 gw):=by
 intro pins s σ H xs us Q I rv h
 obtain ⟨x,rfl,Hs,d,r,S,vd,e,K⟩:=h
 match d,e,vd with
 | .lst ds,e,vd=>
  cases e
  obtain ⟨a,vs,eq,h1,h2⟩:=vd.lst S
  exact hJ pins s σ H _ us Q I rv ⟨a,vs,by rw [eq],.inl (.of h1),fun p hp=>K _ Hs _ (.fresh S hp) ⟨p,vs,rfl,hp,S.free hp,aA,h2⟩⟩
 | .tup ds,e,vd=>
  cases e
  obtain ⟨a,vs,eq,h1,h2⟩:=vd.tup S
  exact hJ pins s σ H _ us Q I rv ⟨a,vs,by rw [eq],.inr (.of h1),fun p hp=>K _ Hs _ (.fresh S hp) ⟨p,vs,rfl,hp,S.free hp,aA,h2⟩⟩
theorem mr (hc:X.calm=true):cN X (.builtin "min") (rC2 eO):=by
 intro pins s σ H xs us Q I rv h
 obtain ⟨x,y,rfl,Hs,a,b,r,S,va,vb,e,K⟩:=h
 match a,b,e,va,vb with
 | .int i,.int j,e,va,vb=>
  cases e
  exact call_min2 hc pins s σ H _ us Q I rv ⟨i,j,by rw [va.int,vb.int],K _ Hs H (.refl S) (shI _ _ _ _)⟩
theorem c_max2 (hc:X.calm=true):cN X (.builtin "max") (rC2 gA):=by
 intro pins s σ H xs us Q I rv h
 obtain ⟨x,y,rfl,Hs,a,b,r,S,va,vb,e,K⟩:=h
 match a,b,e,va,vb with
 | .int i,.int j,e,va,vb=>
  cases e
  exact call_max2 hc pins s σ H _ us Q I rv ⟨i,j,by rw [va.int,vb.int],K _ Hs H (.refl S) (shI _ _ _ _)⟩
end
end Ew
end
section
set_option Elab.async false
set_option linter.all false
set_option maxRecDepth 100000
namespace Ew
open PySem PySem.Spec L2
def kl (sc:Scope) (No N:List Str) (m:Nat) (ix:List Nat) (scope:Scope):Bool:=
 scope.kind==.function&&scope.names.all (fun y=>!(y.2==.cell))&&scope.names.all (fun y=>!(y.2==.local)||scope.names.lookup y.1==some .local)&&N.length==m+ix.length&&
 scope.names.all (fun y=>!(y.2==.free)||(sc.names.lookup y.1==some .cell||sc.names.lookup y.1==some .free))&&
 (List.range ix.length).all fun j=>match ix[j]?,N[m+j]? with
  | some i,some x=>No[i]?==some x&&scope.names.lookup x==some .free
  | _,_=>false
theorem iP {X:Cx} {sc:Scope} {No N:List Str} {m:Nat} {ix:List Nat} {scope:Scope} (h1:X.env.scope=sc) (h2:X.N=No) (h:kl sc No N m ix scope=true):c6 X N m ix scope:=by
 unfold kl at h
 simp only [Bool.and_eq_true] at h
 obtain ⟨⟨⟨⟨⟨a,b⟩,c⟩,d⟩,e⟩,f⟩:=h
 refine ⟨by simpa using a,fun y hy z=>?_,fun y hy z=>?_,by simpa using d,fun y hy z=>?_,fun j i x hi hx=>?_⟩
 ·
  have:=List.all_eq_true.mp b y hy
  simp [z] at this
 ·
  have:=List.all_eq_true.mp c y hy
  simpa [z] using this
 ·
  have:=List.all_eq_true.mp e y hy
  show X.env.scope.names.lookup y.1=_∨X.env.scope.names.lookup y.1=_
  rw [h1]
  simpa [z] using this
 ·
  have hj:j<ix.length:=(List.getElem?_eq_some_iff.mp hi).1
  have:=List.all_eq_true.mp f j (List.mem_range.mpr hj)
  rw [hi,hx] at this
  simp only [Bool.and_eq_true] at this
  rw [h2]
  exact ⟨by simpa using this.1,by simpa using this.2⟩
theorem hu64 {A:Around} {k:Nat} (hr:bq k A):A.units+64<cLine:=by have:=hr.un;omega
section
variable {X:Cx}
theorem ae {i:Int} {j:Nat} {pos:Pos}:DE X (.Constant (.int i) j pos) (ac (.int i)):=mh pe_int fun H=>by unfold Rep;rfl
theorem dA {b:Bool} {j:Nat} {pos:Pos}:DE X (.Constant (.bool b) j pos) (ac (.bl b)):=mh pe_bl fun H=>by unfold Rep;rfl
theorem mv {j:Nat} {pos:Pos}:DE X (.Constant .none j pos) (ac .non):=mh pe_non fun H=>by unfold Rep;rfl
def bls:List D→Option (List Bool)
 | []=>some []
 | .bl b::r=>(bls r).map (b::·)
 | _=>none
theorem bls_are {H:Hp}:∀ {ds:List D} {bs:List Bool} {vs:List V} {us:List Value},bls ds=some bs→au H ds vs→aF vs us→PyProof.Rows.LSm.BoolsAre us bs
 | [],bs,vs,us,e,r,q=>by
  unfold bls at e;cases e
  unfold au at r;subst r
  cases q
  exact .nil
 | d::ds,bs,vs,us,e,r,q=>by
  match d,e with
  | .bl b,e=>
   unfold bls at e
   cases eb:bls ds with
   | none=>rw [eb] at e;cases e
   | some t=>
    rw [eb] at e;cases e
    unfold au at r
    obtain ⟨v,vr,rfl,r1,r2⟩:=r
    unfold Rep at r1
    subst r1
    cases q with
    | cons q1 q2=>
     cases q1
     exact .cons b (bls_are eb r2 q2)
def oAll:D→Option R
 | .lst ds=>(bls ds).map fun bs=>.sh (.bl (bs.all id))
 | _=>none
theorem kept_it {s:Shared} {h':Heap} {o:Obj} (hk:∀ b x,b∉[s.heap.objs.size]→(s.heap.push o).get? b=some x→h'.get? b=some x):∀ b x,s.heap.get? b=some x→h'.get? b=some x:=
 fun b x e=>hk b x (fun hm=>by rw [List.mem_singleton.mp hm] at e;exact Nat.lt_irrefl _ (Heap.lt_size e)) (Heap.get?_push_of_some _ e)
theorem c_all (hc:X.calm=true):cN X (.builtin "all") (rC1 oAll):=by
 intro pins s σ H xs us Q I rv h
 obtain ⟨x,rfl,Hs,d,r,S,vd,e,K⟩:=h
 match d,e,vd with
 | .lst ds,e,vd=>
  cases eb:bls ds with
  | none=>simp only [oAll,eb] at e;cases e
  | some bs=>
   simp only [oAll,eb] at e;cases e
   obtain ⟨a,vs,eq,h1,h2⟩:=vd.lst S
   subst eq
   obtain ⟨u,rfl,ru⟩:=rv.one
   cases (show u=Value.ref a from ru)
   obtain ⟨its,rw',pl,hz⟩:=I.list (SqL.of (K:=X.K) h1)
   have hb:=bls_are eb h2 rw'
   have hl:=pl.isList
   have hh:X.A.handled=none:=I.ok.hd hc
   have hlt:a<s.heap.objs.size:=by obtain ⟨_,e,_⟩:=hl;exact Heap.lt_size e
   refine call_all_walk (wpAny_pyIter_list hl ?_)
   refine ⟨s.heap.objs.size,[s.heap.objs.size,a],[s.heap.objs.size],its.toArray.size,_,_,fun i=>(bs[i]?).getD true,rfl,Walks.list (A:=X.A.in1) hh _ a (Nat.ne_of_lt hlt) its.toArray,
    ⟨⟨_,Heap.get?_push_size _ rfl,rfl,rfl⟩,hl.push _⟩,fun i v s' Q' E' hP hQ=>?_,fun h' tk hk=>?_⟩
   ·
    obtain ⟨b,e,rfl⟩:=hb.get i v (by simpa using hP)
    simp only [e,Option.getD_some] at hQ
    exact wpAny_truthy_bool hQ
   ·
    have e:((List.range its.toArray.size).all fun i=>(bs[i]?).getD true)=bs.all id:=by
     rw [List.size_toArray,hb.length];exact PyProof.Rows.LSm.range_all bs
    rw [e]
    exact ⟨.bl _,H,I.kept (kept_it hk),rfl,K _ Hs H (.refl S) (shB _ _ _ _)⟩
def nums:List D→Option (List Int)
 | []=>some []
 | .int i::r=>(nums r).map (i::·)
 | _=>none
theorem nC {H:Hp}:∀ {ds:List D} {ns:List Int} {vs:List V} {us:List Value},nums ds=some ns→au H ds vs→aF vs us→PyProof.Rows.IntsAre us ns
 | [],bs,vs,us,e,r,q=>by
  unfold nums at e;cases e
  unfold au at r;subst r
  cases q
  exact .nil
 | d::ds,bs,vs,us,e,r,q=>by
  match d,e with
  | .int b,e=>
   unfold nums at e
   cases eb:nums ds with
   | none=>rw [eb] at e;cases e
   | some t=>
    rw [eb] at e;cases e
    unfold au at r
    obtain ⟨v,vr,rfl,r1,r2⟩:=r
    unfold Rep at r1
    subst r1
    cases q with
    | cons q1 q2=>
     obtain ⟨t,rfl⟩:=q1
     exact .cons b t (nC eb r2 q2)
theorem lE {H:Hp}:∀ {ns:List Int} {us:List Value},PyProof.Rows.IntsAre us ns→aF (ns.map V.int) us∧au H (ns.map D.int) (ns.map V.int)
 | _,_,.nil=>⟨.nil,.nil⟩
 | _,_,.cons n t h=>by
  obtain ⟨a,b⟩:=lE (H:=H) h
  exact ⟨.cons ⟨t,rfl⟩ a,.cons (by unfold Rep;rfl) b⟩
theorem un_list {pins:List (Addr×Obj)} {σ:St} {H Hs:Hp} {s:Shared} (I:L2.Inv X pins σ H s) (S:aG Hs H) {ds:List D} {x:V} {us:List Value} (vd:View Hs H (.lst ds) x) (rv:aF [x] us) :
  ∃ a vs its,us=[.ref a]∧x=.ref a∧H a=some (.lst vs)∧au Hs ds vs∧aF vs its∧PySem.PlainL s.heap a its.toArray∧vs.length≤sizeLine:=by
 obtain ⟨a,vs,eq,h1,h2⟩:=vd.lst S
 subst eq
 obtain ⟨u,rfl,ru⟩:=rv.one
 cases (show u=Value.ref a from ru)
 obtain ⟨its,rw',pl,hz⟩:=I.list (SqL.of (K:=X.K) h1)
 exact ⟨a,vs,its,rfl,rfl,h1,h2,rw',pl,hz⟩
end
end Ew
end
section
set_option Elab.async false
set_option linter.all false
set_option maxRecDepth 100000
namespace Ew
open PySem PySem.Spec L2
section
variable {X:Cx}
def cutD (xs:List D) (lo hi:Option Int):List D:=(xs.drop (HT.sIx xs.length 0 lo)).take (HT.sIx xs.length xs.length hi-HT.sIx xs.length 0 lo)
theorem nD {H:Hp} {ds:List D} {vs:List V} (lo hi:Option Int) (r:au H ds vs):au H (cutD ds lo hi) (cutV vs lo hi):=by
 unfold cutD cutV
 rw [r.length]
 exact (r.drop _).take _
abbrev FO:=DSt→Option (Option Int)
def tDO (f:FO):TO:=fun σ H Q=>∃ Hs δ o,aG Hs H∧eE Hs H δ σ∧f δ=some o∧∀ Hs' H',Wd H Hs Hs' H'→Q o H'
structure DO (X:Cx) (e:Option Expr) (f:FO):Prop where
 go:PO X e (tDO f)
theorem _root_.L2.PO.weak {X:Cx} {e:Option Expr} {t t':TO} (h:PO X e t) (w:∀ σ H Q,t' σ H Q→t σ H Q):PO X e t':=fun pins s σ H Q I q=>h pins s σ H Q I (w σ H Q q)
def ic:FO:=fun _=>some none
def gB (f:FE):FO:=fun δ=>(f δ).bind fun r=>match r with
 | .sh (.int i)=>some (some i)
 | _=>none
theorem mw:DO X none ic:=.mk <| po_none.weak fun σ H Q ⟨Hs,δ,o,S,En,e,K⟩=>by
 cases e
 exact K Hs H (.refl S)
theorem mx {e:Expr} {f:FE} (h:DE X e f):DO X (some e) (gB f):=.mk <| (po_some h.go).weak fun σ H Q ⟨Hs,δ,o,S,En,e,K⟩=>by
 unfold gB at e
 cases ef:f δ with
 | none=>rw [ef] at e;cases e
 | some r=>
  rw [ef] at e
  refine ⟨Hs,δ,r,S,En,ef,fun x Hs1 H1 W1 R1=>?_⟩
  match r,e,R1 with
  | .sh (.int i),e,R1=>
   cases e
   have R1:Rep Hs1 (.int i) x:=R1
   unfold Rep at R1
   exact ⟨i,R1,K Hs1 H1 W1⟩
def iQ (f:FE) (fl fh:FO):FE:=fun δ=>(f δ).bind fun r=>(fl δ).bind fun lo=>(fh δ).bind fun hi=>match r.view with
 | .lst ds=>some (.fr (cutD ds lo hi))
 | _=>none
theorem nE {e:Expr} {lo hi:Option Expr} {f:FE} {fl fh:FO} {p2 pos:Pos} (he:DE X e f) (hl:DO X lo fl) (hh:DO X hi fh):DE X (.Subscript e (.Slice lo hi none p2) pos) (iQ f fl fh):=.mk <|
 (ng sl_list he.go hl.go hh.go).weak fun σ H Q ⟨Hs,δ,r,S,En,e,K⟩=>by
  unfold iQ at e
  cases ef:f δ with
  | none=>rw [ef] at e;cases e
  | some rf=>
   cases el:fl δ with
   | none=>rw [ef,el] at e;cases e
   | some lo=>
    cases eh:fh δ with
    | none=>rw [ef,el,eh] at e;cases e
    | some hi=>
     rw [ef,el,eh] at e
     refine ⟨Hs,δ,rf,S,En,ef,fun x Hs1 H1 W1 R1=>⟨Hs1,δ,lo,W1.sub,En.mono W1,el,fun Hs2 H2 W2=>⟨Hs2,δ,hi,W2.sub,En.mono (W1.trans W2),eh,fun Hs3 H3 W3=>?_⟩⟩⟩
     have vw:=((R1.mono W2).mono W3).view
     replace e:(match rf.view with
      | .lst ds=>some (R.fr (cutD ds lo hi))
      | _=>none)=some r:=e
     cases hv:rf.view with
     | lst ds=>
      rw [hv] at e vw
      cases e
      obtain ⟨a,vs,rfl,h1,h2⟩:=vw.lst W3.sub
      have W13:=W1.trans (W2.trans W3)
      exact ⟨a,vs,rfl,.of h1,fun p hp=>K _ Hs3 _ (W13.trans (.fresh W3.sub hp)) ⟨p,_,rfl,W13.keep.free hp,W3.sub.free hp,aA,nD lo hi h2⟩⟩
     | _=>rw [hv] at e;cases e
def srt (ns:List Int):List Int:=ns.mergeSort (fun a b=>decide (a≤b))
theorem srt_eq {ns ns':List Int} (p:ns'.Perm ns) (s:ns'.Pairwise (·≤·)):ns'=srt ns:=by
 have p2:(srt ns).Perm ns:=List.mergeSort_perm _ _
 have s2:(srt ns).Pairwise (·≤·):=by
  have:=List.pairwise_mergeSort (le:=fun (a b:Int)=>decide (a≤b)) (fun a b c h1 h2=>by simp at *;omega) (fun a b=>by simp;omega) ns
  exact this.imp (fun h=>by simpa using h)
 exact List.Perm.eq_of_pairwise (fun a b _ _ h1 h2=>Int.le_antisymm h1 h2) s s2 (p.trans p2.symm)
def fg:D→Option R
 | .lst ds=>(nums ds).bind fun ns=>if ns.length<64 then some (.fr ((srt ns).map .int)) else none
 | _=>none
theorem c_sorted:cN X (.builtin "sorted") (rC1 fg):=by
 intro pins s σ H xs us Q I rv h
 obtain ⟨x,rfl,Hs,d,r,S,vd,e,K⟩:=h
 match d,e,vd with
 | .lst ds,e,vd=>
  cases eb:nums ds with
  | none=>simp only [fg,eb] at e;cases e
  | some ns=>
   by_cases hz:ns.length<64
   ·
    simp only [fg,eb,Option.bind,if_pos hz] at e
    cases e
    obtain ⟨a,vs,its,rfl,rfl,h1,h2,rw',pl,hz'⟩:=un_list I S vd rv
    have hi:=nC eb h2 rw'
    refine PyProof.Rows.sorted_ints pl.isList hi (by rw [hi.length];exact hz) fun out ns' a1 a2 a3=>?_
    have en:=srt_eq a2 a3
    subst en
    obtain ⟨ep,he⟩:=PyProof.Rows.sortedAll_at s.heap its out
    obtain ⟨q1,q2⟩:=lE (H:=Hs) a1
    have k:∀ b u,s.heap.get? b=some u→(PyProof.Rows.sortedAll s.heap its out).get? b=some u:=fun _ _=>PyProof.Rows.sortedAll_old
    have hp:H (s.heap.objs.size+1)=none:=I.hok.fresh (Nat.le_succ _)
    refine ⟨.ref (s.heap.objs.size+1),_,I.laid (t':=s.toks) (o:=.lst ((srt ns).map V.int)) k (Nat.le_succ _) ⟨?_,out.toList,ep,q1,by simpa using he⟩,rfl,K _ Hs _ (.fresh S hp) ⟨_,_,rfl,hp,S.free hp,aA,q2⟩⟩
    rw [List.length_map,a2.length_eq]
    exact Nat.le_of_lt (bP (Nat.le_trans (Nat.le_of_lt hz) (by decide)))
   ·
    simp only [fg,eb,Option.bind,if_neg hz] at e;cases e
end
end Ew
end
section
set_option Elab.async false
set_option linter.all false
set_option maxRecDepth 100000
namespace L2
open PySem PySem.Spec PyProof.Rows
section
variable {X:Cx} {pins:List (Addr×Obj)} {σ:List (Option V)} {H H':Hp} {s:Shared} {h':Heap}
theorem Inv.turnNew {t':Nat} {ch:List Addr} {p:Addr} {o:HO} (I:Inv X pins σ H s) (hp:s.heap.objs.size≤p) (k:∀ b u,b∉ch→s.heap.get? b=some u→h'.get? b=some u) (hf:∀ b∈ch,FpOk X pins H b)
  (new:cp X.prog X.w (upd H p o) h' p o):Inv X pins σ (upd H p o) { s with heap:=h',toks:=t' }:=by
 have hn:H p=none:=I.hok.fresh hp
 have nch:∀ b u,H b=some u→b∉ch:=fun b u e z=>by rw [(hf b z).1] at e;cases e
 refine I.step (g':=s.gens) (d':=s.drawn) (ch:=ch) (fun b hb=>⟨(hf b hb).2.2.2.1,(hf b hb).2.1,(hf b hb).2.2.2.2.1,(hf b hb).2.2.2.2.2⟩) (fun b u _ _ hc e _=>k b u hc e) (fun b u _ _ hc e _=>⟨u.slots,k b u hc e⟩)
  (fun b u _ e n=>by rw [aB (Nat.ne_of_lt (Nat.lt_of_lt_of_le (Heap.lt_size e) hp))];exact n) (fun b u hc e=>⟨u,k b u hc e⟩)
  (fun b xs e=>by rw [aB (aO e hn)];exact e) (fun b u xs e=>by rw [aB (aO e hn)];exact e) (fun b ps e=>⟨#[],by rw [aB (aO e hn),e];simp⟩) (fun m hm=>?_) (fun b u e=>?_) I.bare
 ·
  obtain ⟨ob,es,ep,ho,r⟩:=hm
  exact ⟨ob,es,ep,k _ ob (fun z=>(hf _ z).2.1 rfl) ho,r⟩
 ·
  by_cases hb:b=p
  ·
   subst hb;rw [aA] at e;cases e;exact new
  ·
   rw [aB hb] at e
   refine (I.hok b u e).stay (fun c v hc q=>k c v ?_ q) (fun c q=>by rw [aB (aO q hn)];exact q) fun c xs q=>by rw [aB (aO q hn)];exact q
   rcases hc with z | z
   ·
    rw [z];exact nch b u e
   ·
    exact nch c _ z
theorem Inv.turnedL {t':Nat} {ch:List Addr} (I:Inv X pins σ H s) (k:∀ b u,b∉ch→s.heap.get? b=some u→h'.get? b=some u) (hf:∀ b∈ch,FpOk X pins H b):Inv X pins σ H { s with heap:=h',toks:=t' }:=by
 have nch:∀ b u,H b=some u→b∉ch:=fun b u e z=>by rw [(hf b z).1] at e;cases e
 refine I.step (g':=s.gens) (d':=s.drawn) (ch:=ch) (fun b hb=>⟨(hf b hb).2.2.2.1,(hf b hb).2.1,(hf b hb).2.2.2.2.1,(hf b hb).2.2.2.2.2⟩) (fun b u _ _ hc e _=>k b u hc e) (fun b u _ _ hc e _=>⟨u.slots,k b u hc e⟩)
  (fun b u _ e n=>n) (fun b u hc e=>⟨u,k b u hc e⟩)
  (fun b xs e=>e) (fun b u xs e=>e) (fun b ps e=>⟨#[],by rw [e];simp⟩) (fun m hm=>?_) (fun b u e=>?_) I.bare
 ·
  obtain ⟨ob,es,ep,ho,r⟩:=hm
  exact ⟨ob,es,ep,k _ ob (fun z=>(hf _ z).2.1 rfl) ho,r⟩
 ·
  refine (I.hok b u e).stay (fun c v hc q=>k c v ?_ q) (fun c q=>q) fun c xs q=>q
  rcases hc with z | z
  ·
   rw [z];exact nch b u e
  ·
   exact nch c _ z
end
def Itz (K:PySem.W.Frag) (a b:Addr):It:=
 ⟨fun i H=>∃ xs ys x y,SqL K H a xs∧SqL K H b ys∧xs[i]?=some x∧ys[i]?=some y,
  fun i H v H'=>∃ p x y,v=.ref p∧H p=none∧H'=upd H p (.tup [x,y])∧(∀ xs,SqL K H a xs→xs[i]?=some x)∧∀ ys,SqL K H b ys→ys[i]?=some y,
  fun i H=>∃ xs ys,SqL K H a xs∧SqL K H b ys∧(xs.length≤i∨ys.length≤i)⟩
theorem nF:(2:Nat)≤sizeLine:=by rw [sizeLine_eq];decide
theorem turn_zip {P:Program} {w:World} {K:PySem.W.Frag} {elts:List Expr} {k:Nat} {pos:Pos} (a b z TI TO i1 i2:Addr) (D:ZipApart z TI TO i1 i2 a b) :
  Turn P w K (.Tuple elts k pos) (Itz K a b) [z,TI,TO,i1,i2] z (fun i h=>IsZip h z TI TO .none∧IsPair h TI (.ref i1) (.ref i2)∧(∃ u v,IsPair h TO u v)∧h.IsListIter i1 a i∧h.IsListIter i2 b i) where
 mem:=by simp
 obj:=fun i h st c hc=>by
  obtain ⟨hz,hTI,⟨u,v,hTO⟩,⟨o1,e1,c1,d1⟩,⟨o2,e2,c2,d2⟩⟩:=st
  simp at hc
  rcases hc with rfl | rfl | rfl | rfl | rfl
  ·
   exact ⟨_,hz,fun v z=>by cases (show Data.fields _=Data.cell v from z)⟩
  ·
   exact ⟨_,hTI,fun v z=>by cases (show Data.seq _ _=Data.cell v from z)⟩
  ·
   exact ⟨_,hTO,fun v z=>by cases (show Data.seq _ _=Data.cell v from z)⟩
  ·
   exact ⟨o1,e1,fun v z=>by rw [d1] at z;cases z⟩
  ·
   exact ⟨o2,e2,fun v z=>by rw [d2] at z;cases z⟩
 keep:=fun i h h' st k=>by
  obtain ⟨hz,hTI,⟨u,v,hTO⟩,h1,h2⟩:=st
  exact ⟨k z (by simp) _ hz,k TI (by simp) _ hTI,⟨u,v,k TO (by simp) _ hTO⟩,h1.at fun o e=>k i1 (by simp) o e,h2.at fun o e=>k i2 (by simp) o e⟩
 item:=by
  intro X hP hw hK hc i pins s σ H E I hf st hg
  subst hP hw hK
  obtain ⟨hz,hTI,⟨u,v,hTO⟩,h1,h2⟩:=st
  obtain ⟨xs,ys,x,y,hqa,hqb,hx,hy⟩:=hg
  obtain ⟨its1,rv1,p1,hz1⟩:=I.list hqa
  obtain ⟨its2,rv2,p2,hz2⟩:=I.list hqb
  obtain ⟨u1,hu1,ru1⟩:=rv1.get hx
  obtain ⟨u2,hu2,ru2⟩:=rv2.get hy
  refine wpAny_pyNext_zip_item D hz hTI hTO h1 h2 p1.isList p2.isList (x:=u1) (y:=u2) (by simpa using hu1) (by simpa using hu2) fun h' a1 a2 a3 a4 a5 a6 hk=>?_
  have hsz:z<s.heap.objs.size:=Heap.lt_size hz
  refine ⟨_,rfl,wpAny_letOwnedTupleGo_zip a1 fun h'' hz'' hs''=>?_⟩
  have keep:∀ c o,c∉[z,TI,TO,i1,i2]→s.heap.get? c=some o→h''.get? c=some o:=fun c o hc e=>by
   simp at hc
   exact hs''.extBut c o hc.1 (hk c o hc.1 hc.2.2.1 hc.2.2.2.1 hc.2.2.2.2 e)
  have tup:IsPair h'' s.heap.objs.size u1 u2:=hs''.extBut _ _ (Nat.ne_of_gt hsz) a5
  have hn:H s.heap.objs.size=none:=I.hok.fresh (Nat.le_refl _)
  refine ⟨.ref s.heap.objs.size,upd H s.heap.objs.size (.tup [x,y]),I.turnNew (t':=s.toks) (ch:=[z,TI,TO,i1,i2]) (Nat.le_refl _) keep hf ?_,rfl,⟨_,x,y,rfl,hn,rfl,fun zs hzs=>by rw [I.list_inj hzs hqa];exact hx,fun zs hzs=>by rw [I.list_inj hzs hqb];exact hy⟩,?_,fun c hc=>?_⟩
  ·
   exact ⟨nF,[u1,u2],.cons ru1 (.cons ru2 .nil),⟨_,tup,rfl,_,rfl⟩⟩
  ·
   exact ⟨hz'',hs''.extBut _ _ D.TIz (hk _ _ D.TIz D.TITO D.TIi1 D.TIi2 hTI),⟨_,_,hs''.extBut _ _ D.TOz a2⟩,a3.extBut hs''.extBut D.i1z,a4.extBut hs''.extBut D.i2z⟩
  ·
   have:c≠s.heap.objs.size:=by
    obtain ⟨o,ho,_⟩ : ∃ o,s.heap.get? c=some o∧True:=by
     simp at hc
     rcases hc with rfl | rfl | rfl | rfl | rfl
     ·
      exact ⟨_,hz,trivial⟩
     ·
      exact ⟨_,hTI,trivial⟩
     ·
      exact ⟨_,hTO,trivial⟩
     ·
      obtain ⟨o,e,_⟩:=h1;exact ⟨o,e,trivial⟩
     ·
      obtain ⟨o,e,_⟩:=h2;exact ⟨o,e,trivial⟩
    exact Nat.ne_of_lt (Heap.lt_size ho)
   rw [aB this]
   exact (hf c hc).1
 done:=by
  intro X hP hw hK hc i pins s σ H E I hf st hg
  subst hP hw hK
  obtain ⟨hz,hTI,⟨u,v,hTO⟩,h1,h2⟩:=st
  obtain ⟨xs,ys,hqa,hqb,hend⟩:=hg
  obtain ⟨its1,rv1,p1,hz1⟩:=I.list hqa
  obtain ⟨its2,rv2,p2,hz2⟩:=I.list hqb
  have l1:=rv1.length
  have l2:=rv2.length
  refine wpAny_pyNext_zip_end (I.ok.hd hc) D hz hTI hTO h1 h2 p1.isList p2.isList (by
   rcases hend with q | q
   ·
    left;simp;omega
   ·
    right;simp;omega) fun h' hk=>⟨rfl,I.turnedL (t':=s.toks) (ch:=[z,TI,TO,i1,i2]) (fun c o hc' e=>by
    simp at hc'
    exact hk c o hc'.1 hc'.2.2.1 hc'.2.2.2.1 hc'.2.2.2.2 e) hf⟩
 self:=fun _ _ _ _ _ st h=>wpAny_pyIter_zip st.1 h
section
variable {X:Cx} {elts:List Expr} {k:Nat} {tp:Pos}
def iZip (K:PySem.W.Frag) (ta:TA):TI:=fun σ H R=>ta σ H fun vs H1=>∃ a b,vs=[.ref a,.ref b]∧(∃ xs,SqL K H1 a xs)∧(∃ ys,SqL K H1 b ys)∧R (Itz K a b) H1
theorem pi_zip {a b:Expr} {ta:TA} {p pos:Pos} (hg:Gl X "zip") (hm:X.mg "zip" = none) (ha:PA X [a,b] ta) (hs:starEach [a,b] X.env=[(false,eval a X.env),(false,eval b X.env)]:=by rfl) (hs2:starEach [b] X.env=[(false,eval b X.env)]:=by rfl) :
  PI X (.Tuple elts k tp) (.Call (.Name "zip" p) [a,b] [] pos) (iZip X.K ta):=by
 intro pins s σ H R I h
 refine Call_ (fT I hg hm boot_zip (PyProof.Rows.callWith_type1 (thn (ha pos pins s σ H _ I h) fun us s1 ⟨vs,H1,I1,r1,q1⟩=>?_) (by rw [hs,hs2]) (by rw [hs2];rfl)))
 obtain ⟨x,y,e,⟨xs,hx⟩,⟨ys,hy⟩,q⟩:=q1
 subst e
 cases r1 with
 | cons r rr=>
  cases rr with
  | cons r' rr=>
   cases rr
   cases r
   cases r'
   obtain ⟨its1,rv1,p1,hz1⟩:=I1.list hx
   obtain ⟨its2,rv2,p2,hz2⟩:=I1.list hy
   have lx:x<s1.heap.objs.size:=by obtain ⟨o,n,e,_⟩:=p1;exact Heap.lt_size e
   have ly:y<s1.heap.objs.size:=by obtain ⟨o,n,e,_⟩:=p2;exact Heap.lt_size e
   refine call_zip_2 p1.isList p2.isList fun h' a1 a2 a3 a4 a5 a6 kk=>?_
   refine wpAny_pyIter_zip a1 ?_
   refine ⟨_,_,_,_,H1,rfl,I1.kept (t':=s1.toks) kk,turn_zip x y _ _ _ _ _ (zipApart_new lx ly),⟨a1,a2,⟨_,_,a3⟩,a4,a5⟩,fun c hc=>?_,q⟩
   have:s1.heap.objs.size≤c:=by
    simp at hc
    rcases hc with rfl | rfl | rfl | rfl | rfl <;> omega
   exact I1.fpOk this (I1.hok.fresh this)
def Ite (K:PySem.W.Frag) (a:Addr):It:=
 ⟨fun i H=>∃ xs x,SqL K H a xs∧xs[i]?=some x,
  fun i H v H'=>∃ p x,v=.ref p∧H p=none∧H'=upd H p (.tup [.int i,x])∧∀ xs,SqL K H a xs→xs[i]?=some x,
  fun i H=>∃ xs,SqL K H a xs∧xs.length≤i⟩
theorem turn_enum {P:Program} {w:World} {K:PySem.W.Frag} (a e it:Addr) (hne:e≠it) :
  Turn P w K (.Tuple elts k tp) (Ite K a) [e,it] e (fun i h=>(∃ old,IsEnum h e it i old)∧h.IsListIter it a i) where
 mem:=by simp
 obj:=fun i h st c hc=>by
  obtain ⟨⟨old,he⟩,⟨o1,e1,c1,d1⟩⟩:=st
  simp at hc
  rcases hc with rfl | rfl
  ·
   exact ⟨_,he,fun v z=>by cases (show Data.fields _=Data.cell v from z)⟩
  ·
   exact ⟨o1,e1,fun v z=>by rw [d1] at z;cases z⟩
 keep:=fun i h h' st k=>by
  obtain ⟨⟨old,he⟩,h1⟩:=st
  exact ⟨⟨old,k e (by simp) _ he⟩,h1.at fun o e=>k it (by simp) o e⟩
 item:=by
  intro X hP hw hK hc i pins s σ H E I hf st hg
  subst hP hw hK
  obtain ⟨⟨old,he⟩,h1⟩:=st
  obtain ⟨xs,x,hqa,hx⟩:=hg
  obtain ⟨its1,rv1,p1,hz1⟩:=I.list hqa
  obtain ⟨u1,hu1,ru1⟩:=rv1.get hx
  refine wpAny_pyNext_enum_item he h1 p1.isList (x:=u1) (by simpa using hu1) hne fun h' a1 a2 a3 a4 hk=>?_
  have hsz:e<s.heap.objs.size:=Heap.lt_size he
  refine ⟨_,rfl,wpAny_letOwnedTupleGo_enum a1 fun h'' hz'' hs''=>?_⟩
  have keep:∀ c o,c∉[e,it]→s.heap.get? c=some o→h''.get? c=some o:=fun c o hc e'=>by
   simp at hc
   exact hs''.extBut c o hc.1 (hk c o hc.1 hc.2 e')
  have tup:h''.get? s.heap.objs.size=some { cls:=.type "tuple",data:=.seq #[.int i s.toks,u1] }:=hs''.extBut _ _ (Nat.ne_of_gt hsz) a3
  have hn:H s.heap.objs.size=none:=I.hok.fresh (Nat.le_refl _)
  refine ⟨.ref s.heap.objs.size,upd H s.heap.objs.size (.tup [.int i,x]),I.turnNew (t':=s.toks+1) (ch:=[e,it]) (Nat.le_refl _) keep hf ?_,rfl,⟨_,x,rfl,hn,rfl,fun zs hzs=>by rw [I.list_inj hzs hqa];exact hx⟩,?_,fun c hc=>?_⟩
  ·
   exact ⟨nF,[.int i s.toks,u1],.cons ⟨_,rfl⟩ (.cons ru1 .nil),⟨_,tup,rfl,_,rfl⟩⟩
  ·
   exact ⟨⟨_,by simpa using hz''⟩,a2.extBut hs''.extBut (Ne.symm hne)⟩
  ·
   have:c≠s.heap.objs.size:=by
    obtain ⟨o,ho,_⟩ : ∃ o,s.heap.get? c=some o∧True:=by
     simp at hc
     rcases hc with rfl | rfl
     ·
      exact ⟨_,he,trivial⟩
     ·
      obtain ⟨o,e,_⟩:=h1;exact ⟨o,e,trivial⟩
    exact Nat.ne_of_lt (Heap.lt_size ho)
   rw [aB this]
   exact (hf c hc).1
 done:=by
  intro X hP hw hK hc i pins s σ H E I hf st hg
  subst hP hw hK
  obtain ⟨⟨old,he⟩,h1⟩:=st
  obtain ⟨xs,hqa,hend⟩:=hg
  obtain ⟨its1,rv1,p1,hz1⟩:=I.list hqa
  have l1:=rv1.length
  exact wpAny_pyNext_enum_end (I.ok.hd hc) he h1 p1.isList (by simp;omega) fun h' hk=>⟨rfl,I.turnedL (t':=s.toks) (ch:=[e,it]) (fun c o hc' e'=>by
    simp at hc'
    exact hk c o hc'.2 e') hf⟩
 self:=fun _ _ _ _ _ st h=>by obtain ⟨⟨old,he⟩,_⟩:=st;exact wpAny_pyIter_enum he h
def iEnum (K:PySem.W.Frag) (ta:TA):TI:=fun σ H R=>ta σ H fun vs H1=>∃ a xs,vs=[.ref a]∧H1 a=some (.lst xs)∧R (Ite K a) H1
theorem pi_enum {a:Expr} {ta:TA} {p pos:Pos} (hg:Gl X "enumerate") (hm:X.mg "enumerate" = none) (ha:PA X [a] ta) (hs:starEach [a] X.env=[(false,eval a X.env)]:=by rfl) :
  PI X (.Tuple elts k tp) (.Call (.Name "enumerate" p) [a] [] pos) (iEnum X.K ta):=by
 intro pins s σ H R I h
 refine Call_ (fT I hg hm boot_enumerate (PyProof.Rows.callWith_type1 (thn (ha pos pins s σ H _ I h) fun us s1 ⟨vs,H1,I1,r1,q1⟩=>?_) hs rfl))
 obtain ⟨x,xs,e,hx,q⟩:=q1
 subst e
 cases r1 with
 | cons r rr=>
  cases rr
  cases r
  obtain ⟨z,its,n,rv,eo⟩:=I1.hok x _ hx
  refine call_enumerate_1 eo fun h' a1 a2 a3 kk=>?_
  refine wpAny_pyIter_enum a1 ?_
  refine ⟨_,_,_,_,H1,rfl,I1.kept (t':=s1.toks) kk,turn_enum x (s1.heap.objs.size+1) s1.heap.objs.size (Nat.succ_ne_self _),⟨⟨_,a1⟩,a2⟩,fun c hc=>?_,q⟩
  have:s1.heap.objs.size≤c:=by
   simp at hc
   rcases hc with rfl | rfl <;> omega
  exact I1.fpOk this (I1.hok.fresh this)
end
end L2
namespace Ew
open PySem PySem.Spec L2
section
variable {X:Cx} {elts:List Expr} {k:Nat} {tp:Pos}
def gM (fa:DSt→Option (List R)):DSt→Option (List D):=fun δ=>(fa δ).bind fun rs=>match rs with
 | [r,s]=>if r.isBw=true∨s.isBw=true then none else match r.view,s.view with
  | .lst xs,.lst ys=>some (List.zipWith (fun x y=>.tup [x,y]) xs ys)
  | _,_=>none
 | _=>none
def ienum (fa:DSt→Option (List R)):DSt→Option (List D):=fun δ=>(fa δ).bind fun rs=>match rs with
 | [r]=>if r.isBw=true then none else match r.view with
  | .lst xs=>some (List.zipWith (fun (k:Nat) x=>.tup [.int k,x]) (List.range xs.length) xs)
  | _=>none
 | _=>none
theorem nG {H:Hp} {p:Addr} {x y:V} {dx dy:D} (h:H p=some (.tup [x,y])) (r1:Rep H dx x) (r2:Rep H dy y):Rep H (.tup [dx,dy]) (.ref p):=by
 unfold Rep
 exact ⟨p,_,rfl,h,.cons r1 (.cons r2 .nil)⟩
theorem my {a b:Expr} {fa:DSt→Option (List R)} {p pos:Pos} (hg:Gl X "zip") (hm:X.mg "zip" = none) (ha:DA X [a,b] fa) (hs:starEach [a,b] X.env=[(false,eval a X.env),(false,eval b X.env)]:=by rfl)
  (hs2:starEach [b] X.env=[(false,eval b X.env)]:=by rfl):DI X (.Tuple elts k tp) (.Call (.Name "zip" p) [a,b] [] pos) (gM fa):=.mk <|
 (pi_zip hg hm ha.go hs hs2).weak fun σ H R0 ⟨Hs,δ,items,S,En,e,K⟩=>by
  unfold gM at e
  cases ef:fa δ with
  | none=>rw [ef] at e;cases e
  | some rs=>
   rw [ef] at e
   refine ⟨Hs,δ,rs,S,En,ef,fun vs Hs1 H1 W1 R1=>?_⟩
   match rs,e,R1 with
   | [r,t],e,R1=>
    by_cases hb:r.isBw=true∨t.isBw=true
    ·
     simp only [Option.bind,if_pos hb] at e;cases e
    ·
     simp only [Option.bind,if_neg hb] at e
     obtain ⟨Hs2,q1,q2,q3,q4⟩:=R1.freeze W1.sub
     have W2:Wd H Hs Hs2 H1:=⟨W1.keep,q2,W1.base.trans q3,fun a o e=>by
      rcases q4 (fun r' hr'=>by
       have h1:r.isBw=false:=by cases q:r.isBw;rfl;exact absurd (.inl q) hb
       have h2:t.isBw=false:=by cases q:t.isBw;rfl;exact absurd (.inr q) hb
       simp at hr'
       rcases hr' with rfl | rfl
       ·
        exact h1
       ·
        exact h2) a o e with z | z
      ·
       exact W1.new a o z
      ·
       exact .inr z⟩
     simp only [List.map_cons,List.map_nil] at q1
     unfold au at q1
     obtain ⟨v1,t1,rfl,p1,q1⟩:=q1
     unfold au at q1
     obtain ⟨v2,t2,rfl,p2,q1⟩:=q1
     unfold au at q1
     subst q1
     cases hr:r.view with
     | lst xs=>
      cases ht:t.view with
      | lst ys=>
       rw [hr,ht] at e
       cases e
       rw [hr] at p1
       rw [ht] at p2
       unfold Rep at p1 p2
       obtain ⟨a1,us1,rfl,g1,g2⟩:=p1
       obtain ⟨a2,us2,rfl,g3,g4⟩:=p2
       refine ⟨a1,a2,rfl,⟨us1,.of (W2.sub _ _ g1)⟩,⟨us2,.of (W2.sub _ _ g3)⟩,K _ Hs2 H1 W2 ?_⟩
       intro i Hs5 H5 S1 S2
       have hH1:=S2 _ _ (S1 _ _ g1)
       have hH2:=S2 _ _ (S1 _ _ g3)
       refine ⟨fun d hd=>?_,fun hl=>⟨us1,us2,.of hH1,.of hH2,by rw [g2.length,g4.length];simp at hl;omega⟩⟩
       rw [List.getElem?_zipWith] at hd
       cases ex:xs[i]? with
       | none=>rw [ex] at hd;simp at hd
       | some dx=>
        cases ey:ys[i]? with
        | none=>rw [ex,ey] at hd;simp at hd
        | some dy=>
         rw [ex,ey] at hd
         simp at hd
         subst hd
         obtain ⟨w1,hw1,rw1⟩:=g2.get ex
         obtain ⟨w2,hw2,rw2⟩:=g4.get ey
         refine ⟨⟨us1,us2,w1,w2,.of hH1,.of hH2,hw1,hw2⟩,fun x H' yl=>?_⟩
         obtain ⟨pp,x1,y1,rfl,hpp,rfl,z1,z2⟩:=yl
         have z1:=z1 us1 (.of hH1)
         have z2:=z2 us2 (.of hH2)
         rw [hw1] at z1;cases z1
         rw [hw2] at z2;cases z2
         have nw:aG Hs5 (L2.upd Hs5 pp (.tup [w1,w2])):=.new (S2.free hpp)
         exact ⟨L2.upd Hs5 pp (.tup [w1,w2]),.lay S2 hpp,nG aA (Rep.mono (S1.trans nw) _ rw1) (Rep.mono (S1.trans nw) _ rw2)⟩
      | _=>rw [hr,ht] at e;cases e
     | _=>rw [hr] at e;cases e
theorem di_enum {a:Expr} {fa:DSt→Option (List R)} {p pos:Pos} (hg:Gl X "enumerate") (hm:X.mg "enumerate" = none) (ha:DA X [a] fa) (hs:starEach [a] X.env=[(false,eval a X.env)]:=by rfl) :
  DI X (.Tuple elts k tp) (.Call (.Name "enumerate" p) [a] [] pos) (ienum fa):=.mk <|
 (pi_enum hg hm ha.go hs).weak fun σ H R0 ⟨Hs,δ,items,S,En,e,K⟩=>by
  unfold ienum at e
  cases ef:fa δ with
  | none=>rw [ef] at e;cases e
  | some rs=>
   rw [ef] at e
   refine ⟨Hs,δ,rs,S,En,ef,fun vs Hs1 H1 W1 R1=>?_⟩
   match rs,e,R1 with
   | [r],e,⟨v,t,ev,q1,q2⟩=>
    have q2:t=[]:=q2
    subst q2
    subst ev
    by_cases hb:r.isBw=true
    ·
     simp only [Option.bind,if_pos hb] at e;cases e
    ·
     simp only [Option.bind,if_neg hb] at e
     obtain ⟨Hs2,q,W2⟩:=q1.share W1 (fun ds z=>hb (by rw [z];rfl))
     cases hr:r.view with
     | lst xs=>
      rw [hr] at e q
      cases e
      unfold Rep at q
      obtain ⟨a1,us1,rfl,g1,g2⟩:=q
      refine ⟨a1,us1,rfl,W2.sub _ _ g1,K _ Hs2 H1 W2 ?_⟩
      intro i Hs5 H5 S1 S2
      have hH1:=S2 _ _ (S1 _ _ g1)
      refine ⟨fun d hd=>?_,fun hl=>⟨us1,.of hH1,by rw [g2.length];simpa using hl⟩⟩
      rw [List.getElem?_zipWith] at hd
      cases ex:xs[i]? with
      | none=>rw [ex] at hd;simp at hd
      | some dx=>
       have hi:i<xs.length:=(List.getElem?_eq_some_iff.mp ex).1
       rw [ex,List.getElem?_range hi] at hd
       simp at hd
       subst hd
       obtain ⟨w1,hw1,rw1⟩:=g2.get ex
       refine ⟨⟨us1,w1,.of hH1,hw1⟩,fun x H' yl=>?_⟩
       obtain ⟨pp,x1,rfl,hpp,rfl,z1⟩:=yl
       have z1:=z1 us1 (.of hH1)
       rw [hw1] at z1;cases z1
       have nw:aG Hs5 (L2.upd Hs5 pp (.tup [.int i,w1])):=.new (S2.free hpp)
       exact ⟨L2.upd Hs5 pp (.tup [.int i,w1]),.lay S2 hpp,nG aA (by unfold Rep;rfl) (Rep.mono (S1.trans nw) _ rw1)⟩
     | _=>rw [hr] at e;cases e
end
end Ew
end
section
set_option Elab.async false
set_option linter.all false
set_option maxRecDepth 100000
namespace Ew
open PySem PySem.Spec L2
theorem StR.upd {H0 Hs0 Hs H:Hp} {δ:DSt} {σ:St} {i:Nat} {ds ds':List D} {a:Addr} {vs vs':List V} (W:Wd H0 Hs0 Hs H) (S:StR H0 Hs H δ σ) (q:δ[i]?=some (some (.ow ds))) (hv:σ[i]?=some (some (.ref a)))
  (h1:H a=some (.lst vs)) (m:Hs a=none) (r:au Hs ds' vs'):Wd H0 Hs0 Hs (L2.upd H a (.lst vs'))∧StR H0 Hs (L2.upd H a (.lst vs')) (δ.set i (some (.ow ds'))) σ:=by
 have:=S.upG (Hs':=Hs) (H':=L2.upd H a (.lst vs')) (e':=.ow ds') (v':=.ref a) W q hv (fun b o n e=>by
  have:b≠a:=fun z=>n (by rw [z];rfl)
  rw [aB this];exact e) (fun b o e=>by rw [aB (aO e m)];exact W.sub _ _ e) (.refl _) (fun _ _ e=>.inl e) ⟨a,vs',rfl,m,aA,r⟩ (fun b f=>.inl f)
 rw [set_same hv] at this
 exact this
def cD (i:Nat) (f:FE):FS:=fun δ=>match δ[i]? with
 | some (some (.ow ds))=>(f δ).bind fun r=>if r.isBw=true then none else if ds.length≤big then some (.nx (δ.set i (some (.ow (ds++[r.view]))))) else none
 | _=>none
def sext (i:Nat) (f:FE):FS:=fun δ=>match δ[i]? with
 | some (some (.ow ds))=>(f δ).bind fun r=>match r.view with
  | .lst es=>if ds.length+es.length≤big then some (.nx (δ.set i (some (.ow (ds++es))))) else none
  | _=>none
 | _=>none
section
variable {X:Cx} {e:Expr} {f:FE}
theorem ci {i:Nat} {x:Str} {xp apos cpos pos:Pos} (hx:PE X (.Name x xp) (eX i)) (he:DE X e f)
  (hbase:attributeBase (.Name x xp) "append" X.env (eval (.Name x xp) X.env)=eval (.Name x xp) X.env:=by rfl)
  (hfew:((backTo cpos (starEach [e] X.env)).all (fun x=>!x.1)&&(backToKw cpos (keywordEach [] X.env)).all (fun x=>x.1.isSome)
   &&decide ([e].length+([]:List Keyword).length+(if ([]:List Keyword).isEmpty then 0 else 1)<30))=true:=by rfl)
  (hline:(apos.endLine==cpos.line)=true:=by rfl) (hs:starEach [e] X.env=(false,eval e X.env)::starEach [] X.env:=by rfl)
  (hsw:swapsWith (.Call (.Attribute (.Name x xp) "append" apos) [e] [] cpos) none pos.line X.env=pure false:=by rfl) :
  DS X (.Expr (.Call (.Attribute (.Name x xp) "append" apos) [e] [] cpos) pos) (cD i f):=.mk fun H0 Hs0=>
 (g9 (pe_bm PySem.F.plainAttrs_list PySem.F.slot_list_append PySem.F.type_list_append lA hx (cz he.go eZ hs) hbase hfew hline hs) hsw).weak fun D σ H ⟨Hs,δ,res,W,S,e,P⟩=>by
  unfold cD at e
  cases q:δ[i]? with
  | none=>rw [q] at e;cases e
  | some o=>
   rw [q] at e
   match o,e with
   | some (.ow ds),e=>
    obtain ⟨v,hv,a,vs,rfl,m,h1,h2⟩:=S.ent i _ q
    cases ef:f δ with
    | none=>simp only [ef] at e;cases e
    | some r=>
     simp only [ef,Option.bind] at e
     by_cases hb:r.isBw=true
     ·
      rw [if_pos hb] at e;cases e
     ·
      rw [if_neg hb] at e
      by_cases hz:ds.length≤big
      ·
       rw [if_pos hz] at e
       cases e
       refine ⟨_,hv,.inl ⟨rfl,vs,.of h1⟩,Hs,δ,r,W.sub,S.ent,ef,fun y Hs1 H1 W1 R1=>?_⟩
       obtain ⟨Hs2,g,W2⟩:=R1.share W1 (fun ds z=>hb (by rw [z];rfl))
       have S2:=S.mono W2
       refine ⟨a,vs,y,rfl,rfl,W2.keep _ _ h1,?_,?_⟩
       ·
        rw [h2.length];exact bP hz
       ·
        obtain ⟨W3,S3⟩:=S2.upd (W.trans W2) q hv (W2.keep _ _ h1) (W2.stay h1 m) ((au.mono W2.base _ h2).append (.cons g .nil))
        exact P σ Hs2 _ W3 S3
      ·
       rw [if_neg hz] at e;cases e
theorem ds_extend {i:Nat} {x:Str} {xp apos cpos pos:Pos} (hx:PE X (.Name x xp) (eX i)) (he:DE X e f)
  (hbase:attributeBase (.Name x xp) "extend" X.env (eval (.Name x xp) X.env)=eval (.Name x xp) X.env:=by rfl)
  (hfew:((backTo cpos (starEach [e] X.env)).all (fun x=>!x.1)&&(backToKw cpos (keywordEach [] X.env)).all (fun x=>x.1.isSome)
   &&decide ([e].length+([]:List Keyword).length+(if ([]:List Keyword).isEmpty then 0 else 1)<30))=true:=by rfl)
  (hline:(apos.endLine==cpos.line)=true:=by rfl) (hs:starEach [e] X.env=(false,eval e X.env)::starEach [] X.env:=by rfl)
  (hsw:swapsWith (.Call (.Attribute (.Name x xp) "extend" apos) [e] [] cpos) none pos.line X.env=pure false:=by rfl) :
  DS X (.Expr (.Call (.Attribute (.Name x xp) "extend" apos) [e] [] cpos) pos) (sext i f):=.mk fun H0 Hs0=>
 (g9 (pe_bm PySem.F.plainAttrs_list PySem.F.slot_list_extend PySem.F.type_list_extend mt_extend hx (cz he.go eZ hs) hbase hfew hline hs) hsw).weak fun D σ H ⟨Hs,δ,res,W,S,e,P⟩=>by
  unfold sext at e
  cases q:δ[i]? with
  | none=>rw [q] at e;cases e
  | some o=>
   rw [q] at e
   match o,e with
   | some (.ow ds),e=>
    obtain ⟨v,hv,a,vs,rfl,m,h1,h2⟩:=S.ent i _ q
    cases ef:f δ with
    | none=>simp only [ef] at e;cases e
    | some r=>
     simp only [ef,Option.bind] at e
     refine ⟨_,hv,.inl ⟨rfl,vs,.of h1⟩,Hs,δ,r,W.sub,S.ent,ef,fun y Hs1 H1 W1 R1=>?_⟩
     have vw:=R1.view
     cases hr:r.view with
     | lst es=>
      rw [hr] at e vw
      replace e:(if ds.length+es.length≤big then some (Res.nx (δ.set i (some (.ow (ds++es))))) else none)=some res:=e
      by_cases hz:ds.length+es.length≤big
      ·
       rw [if_pos hz] at e
       cases e
       obtain ⟨b,us,rfl,g1,g2⟩:=vw.lst W1.sub
       have S2:=S.mono W1
       refine ⟨a,b,vs,us,rfl,rfl,W1.keep _ _ h1,g1,?_,?_⟩
       ·
        rw [h2.length,g2.length];exact Nat.le_of_lt (bP hz)
       ·
        obtain ⟨W3,S3⟩:=S2.upd (W.trans W1) q hv (W1.keep _ _ h1) (W1.stay h1 m) ((au.mono W1.base _ h2).append g2)
        exact P σ Hs1 _ W3 S3
      ·
       rw [if_neg hz] at e;cases e
     | _=>rw [hr] at e;cases e
def ju (g:Int→Int→Int) (i:Nat) (f:FE):FS:=fun δ=>match δ[i]? with
 | some (some (.sh (.int a)))=>(f δ).bind fun r=>match r with
  | .sh (.int b)=>some (.nx (δ.set i (some (.sh (.int (g a b))))))
  | _=>none
 | _=>none
theorem ds_aug {i:Nat} {x:Str} {op:Operator} {g:Int→Int→Int} {pos pos':Pos} (hN:X.N.Nodup) (hi:X.N[i]?=some x) (hx:Loc X.env.scope x) (he:DE X e f) (ho:PIp X op (ipI g))
  (hf:X.fn x=true∨X.env.scope.names.lookup x=some .local:=by first | exact .inl rfl | exact .inr rfl | assumption):DS X (.AugAssign (.Name x pos') op e pos) (ju g i f):=.mk fun H0 Hs0=>
 (ps_aug hN hi hx he.go ho hf).weak fun D σ H ⟨Hs,δ,res,W,S,e,P⟩=>by
  unfold ju at e
  cases q:δ[i]? with
  | none=>rw [q] at e;cases e
  | some o=>
   rw [q] at e
   match o,e with
   | some (.sh (.int a)),e=>
    obtain ⟨v,hv,hr⟩:=S.ent i _ q
    have hr:Rep Hs (.int a) v:=hr
    unfold Rep at hr
    subst hr
    refine ⟨_,hv,?_⟩
    cases ef:f δ with
    | none=>simp only [ef] at e;cases e
    | some r=>
     simp only [ef,Option.bind] at e
     refine ⟨Hs,δ,r,W.sub,S.ent,ef,fun y Hs1 H1 W1 R1=>?_⟩
     match r,e,R1 with
     | .sh (.int b),e,R1=>
      cases e
      have R1:Rep Hs1 (.int b) y:=R1
      unfold Rep at R1
      exact ⟨a,b,rfl,R1,P _ Hs1 H1 (W.trans W1) (S.set (r:=.sh (.int (g a b))) W W1 (shI _ _ _ _) rfl)⟩
end
end Ew
end
section
set_option Elab.async false
set_option linter.all false
set_option maxRecDepth 100000
namespace Ew
open PySem PySem.Spec L2
section
variable {X:Cx}
theorem c_rng1:cN X (.type "range") (fun xs H Q=>∃ j:Int,xs=[.int j]∧∀ r,H r=none→Q (.ref r) (L2.upd H r (.rng 0 j))):=by
 intro pins s σ H xs us Q I rv h
 obtain ⟨j,rfl,q⟩:=h
 obtain ⟨u,rfl,t,rfl⟩:=rv.one
 refine call_range_1 ?_
 exact ⟨.ref s.heap.objs.size,_,I.laid (o:=.rng 0 j) (fun b o e=>Heap.get?_push_of_some _ e) (Nat.le_refl _) ⟨_,_,_,Heap.get?_push_size _ rfl⟩,rfl,q _ (I.hok.fresh (Nat.le_refl _))⟩
theorem c_listR (hc:X.calm=true):cN X (.type "list") (fun xs H Q=>∃ r lo hi,xs=[.ref r]∧H r=some (.rng lo hi)∧(-1000000≤lo∧lo≤1000000∧-1000000≤hi∧hi≤1000000)∧
  ∀ l,H l=none→Q (.ref l) (L2.upd H l (.lst ((List.range (hi-lo).toNat).map fun k=>V.int (lo+(k:Nat)))))):=by
 intro pins s σ H xs us Q I rv h
 obtain ⟨r,lo,hi,rfl,h1,⟨b1,b2,b3,b4⟩,q⟩:=h
 obtain ⟨u,rfl,ru⟩:=rv.one
 cases (show u=Value.ref r from ru)
 obtain ⟨t,u,v,e⟩:=(show ∃ t u v,s.heap.get? r=some { cls:=.type "range",data:=.fields #[.int lo t,.int hi u,.int 1 v] } from I.hok r _ h1)
 have e2:Builtin.Range.rangeSize lo hi 1=(((hi-lo).toNat:Nat):Int):=by rw [rangeSize_one];split <;> omega
 refine call_list_range (I.ok.hd hc) e (small_one (by omega) (by omega) (by omega) (by omega)) e2 (by omega) fun h' tk acc' c' kk ho hacc=>?_
 obtain ⟨hs,hall⟩:=hacc
 have hv:aF ((List.range (hi-lo).toNat).map fun k=>V.int (lo+(k:Nat))) acc'.toList:=by
  have gen:∀ (n:Nat) (a:Int) (l:List Value),l.length=n→(∀ (j:Nat) (v:Value),l[j]?=some v→∃ t,v=Value.int (a+(j:Nat)) t)→aF ((List.range n).map fun k=>V.int (a+(k:Nat))) l:=by
   intro n
   induction n with
   | zero=>intro a l hl _;rw [List.length_eq_zero_iff.mp hl];exact .nil
   | succ n ih=>
    intro a l hl hall
    cases l with
    | nil=>cases hl
    | cons v l=>
     rw [List.range_succ_eq_map,List.map_cons,List.map_map]
     obtain ⟨t,ht⟩:=hall 0 v rfl
     refine .cons ⟨t,by simpa using ht⟩ ?_
     have:=ih (a+1) l (by simpa using hl) fun j w hw=>by
      obtain ⟨t,ht⟩:=hall (j+1) w (by simpa using hw)
      exact ⟨t,by rw [ht];congr 1;push_cast;omega⟩
     have e3:((fun k:Nat=>V.int (a+(k:Nat)))∘Nat.succ)=fun k:Nat=>V.int (a+1+(k:Nat)):=by
      funext k
      show V.int _=V.int _
      congr 1
      push_cast
      omega
     rw [e3]
     exact this
  refine gen _ lo acc'.toList (by simpa using hs) fun j v hj=>?_
  obtain ⟨t,ht⟩:=hall j v (by simpa using hj)
  exact ⟨t,by rw [ht];congr 1;omega⟩
 refine ⟨.ref s.heap.objs.size,_,I.laid (t':=tk) (o:=.lst _) kk (Nat.le_refl _) ⟨?_,acc'.toList,c',hv,by simpa using ho⟩,rfl,q _ (I.hok.fresh (Nat.le_refl _))⟩
 rw [List.length_map,List.length_range,PySem.sizeLine_eq]
 omega
def rngD (lo hi:Int):Option R:=if -1000000≤lo∧lo≤1000000∧-1000000≤hi∧hi≤1000000 then some (.fr ((List.range (hi-lo).toNat).map fun k=>.int (lo+(k:Nat)))) else none
def ie (fa:DSt→Option (List R)):FE:=fun δ=>(fa δ).bind fun rs=>match rs with
 | [.sh (.int j)]=>rngD 0 j
 | _=>none
theorem nH {H:Hp} (lo:Int):∀ l:List Nat,au H (l.map fun k=>D.int (lo+(k:Nat))) (l.map fun k=>V.int (lo+(k:Nat)))
 | []=>.nil
 | k::l=>.cons (by unfold Rep;rfl) (nH lo l)
theorem rng_end {σ:St} {H Hs Hs1 H1:Hp} {lo hi:Int} {r:R} {Q:VK} (W1:Wd H Hs Hs1 H1) (e:rngD lo hi=some r) (K:∀ v Hs' H',Wd H Hs Hs' H'→c7 H Hs' H' r v→Q v H') {p:Addr} (hp:H1 p=none) :
  ∃ r' lo' hi',[V.ref p]=[V.ref r']∧(L2.upd H1 p (.rng lo hi)) r'=some (.rng lo' hi')∧(-1000000≤lo'∧lo'≤1000000∧-1000000≤hi'∧hi'≤1000000)∧
   ∀ l,(L2.upd H1 p (.rng lo hi)) l=none→Q (.ref l) (L2.upd (L2.upd H1 p (.rng lo hi)) l (.lst ((List.range (hi'-lo').toNat).map fun k=>V.int (lo'+(k:Nat))))):=by
 unfold rngD at e
 by_cases hc:-1000000≤lo∧lo≤1000000∧-1000000≤hi∧hi≤1000000
 ·
  rw [if_pos hc] at e
  cases e
  refine ⟨p,lo,hi,rfl,aA,hc,fun l hl=>?_⟩
  have W2:Wd H Hs Hs1 (L2.upd H1 p (.rng lo hi)):=W1.trans (.fresh W1.sub hp)
  exact K _ Hs1 _ (W2.trans (.fresh W2.sub hl)) ⟨l,_,rfl,W2.keep.free hl,W2.sub.free hl,aA,nH lo _⟩
 ·
  rw [if_neg hc] at e;cases e
theorem nI {a:Expr} {fa:DSt→Option (List R)} {p1 p2 pos1 pos2:Pos} (hc:X.calm=true) (ha:DA X [a] fa) (hg:Gl X "list") (hm:X.mg "list" = none) (hg2:Gl X "range") (hm2:X.mg "range" = none)
  (hs:starEach [a] X.env=[(false,eval a X.env)]:=by rfl)
  (hs2:starEach [.Call (.Name "range" p2) [a] [] pos2] X.env=[(false,eval (.Call (.Name "range" p2) [a] [] pos2) X.env)]:=by rfl) :
  DE X (.Call (.Name "list" p1) [.Call (.Name "range" p2) [a] [] pos2] [] pos1) (ie fa):=.mk <|
 (iL (c_listR hc) hg hm PyProof.Rows.boot_list (cz (iL c_rng1 hg2 hm2 PyProof.Rows.boot_range ha.go (he:=hs)) eZ hs2) (he:=hs2)).weak fun σ H Q ⟨Hs,δ,r,S,En,e,K⟩=>by
  unfold ie at e
  cases ef:fa δ with
  | none=>rw [ef] at e;cases e
  | some rs=>
   rw [ef] at e
   refine ⟨Hs,δ,rs,S,En,ef,fun vs Hs1 H1 W1 R1=>?_⟩
   match rs,e,R1 with
   | [.sh (.int j)],e,⟨v,t,ev,q1,q2⟩=>
    have q2:t=[]:=q2
    have q1:Rep Hs1 (.int j) v:=q1
    unfold Rep at q1
    exact ⟨j,by rw [ev,q1,q2],fun p hp=>rng_end (σ:=σ) W1 e K hp⟩
def ig:D→Option R
 | .int i=>some (.sh (.int (-i)))
 | _=>none
theorem mz {a:Expr} {f:FE} {pos:Pos} (h:DE X a f):DE X (.UnaryOp .USub a pos) (dun ig f):=.mk <| (pe_un un_neg h.go).weak fun σ H Q hh=>by
 obtain ⟨Hs,δ,r,S,En,e,K⟩:=hh
 unfold dun at e
 cases ef:f δ with
 | none=>rw [ef] at e;cases e
 | some rf=>
  rw [ef] at e
  refine ⟨Hs,δ,rf,S,En,ef,fun x Hs1 H1 W1 R1=>?_⟩
  have vw:=R1.view
  cases hv:rf.view with
  | int i=>
   rw [hv] at vw
   simp only [Option.bind,hv,ig] at e
   cases e
   exact ⟨i,vw.int,K _ Hs1 H1 W1 (shI _ _ _ _)⟩
  | _=>simp only [Option.bind,hv,ig] at e;cases e
end
end Ew
end
section
set_option Elab.async false
set_option linter.all false
set_option maxRecDepth 100000
namespace L2
open PySem PySem.Spec PyProof.Rows
section
variable {X:Cx}
def tRev (K:PySem.W.Frag) (te ts:TE):TE:=fun σ H Q=>te σ H fun x H1=>ts σ H1 fun st H2=>st=.int (-1)∧∃ a xs,x=.ref a∧SqL K H2 a xs∧∀ p,H2 p=none→Q (.ref p) (upd H2 p (.lst xs.reverse))
theorem pe_rev {e step:Expr} {te ts:TE} {p2 pos:Pos} (he:PE X e te) (hst:PE X step ts):PE X (.Subscript e (.Slice none none (some step) p2) pos) (tRev X.K te ts):=by
 intro pins s σ H Q I h
 refine Subscript_ (thn (he pins s σ H _ I h) fun v s1 ⟨x,H1,I1,r1,q1⟩=>?_)
 refine wpAny_Slice ?_
 rw [evalPart_none]
 refine wpAny_pure (wpAny_pure ?_)
 rw [evalPart_some]
 refine thn (hst pins s1 σ H1 _ I1 q1) fun u s2 ⟨y,H2,I2,r2,e2,a,xs,ex,hx,q2⟩=>?_
 subst e2
 subst ex
 cases r1
 obtain ⟨t,rfl⟩:=r2
 have I4:Inv X pins σ H2 { s2 with heap:=s2.heap.push { cls:=.type "slice",data:=.fields #[.none,.none,.int (-1) t] } }:=I2.kept (t':=s2.toks) fun b ob q=>Heap.get?_push_of_some _ q
 obtain ⟨its,r,ht,hz⟩:=I4.list hx
 have hlen:=r.length
 show wpAny (model X.prog X.w) X.A (subscriptTail e (.Slice none none (some step) p2) (.ref a) (.ref s2.heap.objs.size)) (EP X pins σ Q) X.xe { s2 with heap:=s2.heap.push { cls:=.type "slice",data:=.fields #[.none,.none,.int (-1) t] } }
 refine tail_any (ops:=[.ref a,.ref s2.heap.objs.size]) ht.isList.typeIs slot_list_getitem.lookup ?_ (by with_unfolding_all rfl)
 refine wpAny_getItem_list_slice ht.isList (Heap.IsSliceOf.new ..) .none .none (.int (-1) t) (by simp) ?_ (by rw [List.size_toArray] <;> omega)
 rw [PySem.W.krv_pick]
 refine ⟨.ref _,_,I4.laid (t':=s2.toks) (o:=.lst xs.reverse) (fun b ob q=>Heap.get?_push_of_some _ q) (Nat.le_refl _) ?_,rfl,q2 _ (I4.hok.fresh (Nat.le_refl _))⟩
 exact ⟨by rw [List.length_reverse];exact hz,its.reverse,0,r.reverse,Heap.get?_push_size _ rfl⟩
end
end L2
namespace Ew
open PySem PySem.Spec L2
section
variable {X:Cx}
def drev (f fs:FE):FE:=fun δ=>(f δ).bind fun r=>(fs δ).bind fun s=>match r.view,s with
 | .lst ds,.sh (.int (-1))=>some (.fr ds.reverse)
 | _,_=>none
theorem de_rev {e step:Expr} {f fs:FE} {p2 pos:Pos} (he:DE X e f) (hst:DE X step fs):DE X (.Subscript e (.Slice none none (some step) p2) pos) (drev f fs):=.mk <|
 (pe_rev he.go hst.go).weak fun σ H Q ⟨Hs,δ,r,S,En,e,K⟩=>by
  unfold drev at e
  cases ef:f δ with
  | none=>rw [ef] at e;cases e
  | some rf=>
   cases es:fs δ with
   | none=>rw [ef,es] at e;cases e
   | some rs=>
    rw [ef,es] at e
    refine ⟨Hs,δ,rf,S,En,ef,fun x Hs1 H1 W1 R1=>⟨Hs1,δ,rs,W1.sub,En.mono W1,es,fun y Hs2 H2 W2 R2=>?_⟩⟩
    have vw:=(R1.mono W2).view
    cases hv:rf.view with
    | lst ds=>
     rw [hv] at vw
     match rs,e,R2 with
     | .sh (.int k),e,R2=>
      simp only [Option.bind,hv] at e
      have R2:Rep Hs2 (.int k) y:=R2
      unfold Rep at R2
      by_cases hk:k=-1
      ·
       subst hk
       cases e
       obtain ⟨a,vs,rfl,h1,h2⟩:=vw.lst W2.sub
       have W12:=W1.trans W2
       exact ⟨R2,a,vs,rfl,.of h1,fun p hp=>K _ Hs2 _ (W12.trans (.fresh W2.sub hp)) ⟨p,_,rfl,W12.keep.free hp,W2.sub.free hp,aA,h2.reverse⟩⟩
      ·
       exfalso
       revert e
       split
       ·
        rename_i h1 h2
        simp at h2
        omega
       ·
        intro z;cases z
     | .sh .non,e,_=>simp only [Option.bind,hv] at e;cases e
     | .sh (.bl _),e,_=>simp only [Option.bind,hv] at e;cases e
     | .sh (.str _),e,_=>simp only [Option.bind,hv] at e;cases e
     | .sh (.lst _),e,_=>simp only [Option.bind,hv] at e;cases e
     | .sh (.tup _),e,_=>simp only [Option.bind,hv] at e;cases e
     | .sh (.obj _ _),e,_=>simp only [Option.bind,hv] at e;cases e
     | .fr _,e,_=>simp only [Option.bind,hv] at e;cases e
     | .bw _,e,_=>simp only [Option.bind,hv] at e;cases e
    | _=>simp only [Option.bind,hv] at e;cases e
inductive TyD (K:PySem.W.Frag):D→Value→Prop where
 | non:TyD K .non (.type "NoneType")
 | bl (x:Bool):TyD K (.bl x) (.type "bool")
 | int (i:Int):TyD K (.int i) (.type "int")
 | str (x:Str):TyD K (.str x) (.type "str")
 | lst (xs:List D):TyD K (.lst xs) (.type "list")
 | tup (xs:List D):TyD K (.tup xs) (.type "tuple")
 | obj {C:Addr} (fs:List (Str×D)) (cl:Cls K C) (ha:PySem.W.findIn K (.ref C) "__class__" = some (some (.builtin "object.__class__")))
  (hn:PySem.W.specialIn K (.builtin "object.__class__") "__get__" = some (some (.builtin "getset_descriptor.__get__"))) (htk:PySem.W.takesIn K (.builtin "object.__class__")=some true)
  (hm:PySem.W.mroIn K C (.type "object")=some true):TyD K (.obj C fs) (.ref C)
theorem TyD.of {K:PySem.W.Frag} {Hs H:Hp} {d:D} {t:Value} {v:V} (S:aG Hs H) (ty:TyD K d t) (h:View Hs H d v):hE K H v t:=by
 cases ty with
 | non=>rw [h.non];exact .non
 | bl x=>rw [h.bl];exact .bl x
 | int i=>rw [h.int];exact .int i
 | str x=>rw [h.str];exact .str x
 | lst xs=>obtain ⟨a,vs,rfl,h1,_⟩:=h.lst S;exact .lst h1
 | tup xs=>obtain ⟨a,vs,rfl,h1,_⟩:=h.tup S;exact .tup h1
 | obj fs cl ha hn htk hm=>obtain ⟨a,dx,fvs,rfl,h1,_⟩:=h.obj S;exact .ins h1 cl ha hn htk hm
theorem RelV.fn {x:V} {u v:Value} (hx:(∃ n,x=.ty n)∨∃ a,x=.ref a) (a:RelV x u) (b:RelV x v):u=v:=by
 rcases hx with ⟨n,rfl⟩ | ⟨n,rfl⟩
 ·
  cases (show u=Value.type n from a);cases (show v=Value.type n from b);rfl
 ·
  cases (show u=Value.ref n from a);cases (show v=Value.ref n from b);rfl
theorem c_isinst:cN X (.builtin "isinstance") (fun xs H Q=>∃ x c cu t b,xs=[x,c]∧((∃ n,c=.ty n)∨∃ a,c=.ref a)∧RelV c cu∧hE X.K H x t∧PySem.W.kitOne X.K t cu=some b∧Q (.bl b) H):=by
 intro pins s σ H xs us Q I rv h
 obtain ⟨x,c,cu,t,b,rfl,hc,rc,ty,hk,q⟩:=h
 obtain ⟨u,u2,rfl,ru,ru2⟩:=rv.two
 cases RelV.fn hc rc ru2
 exact isinst_ok I ru ty hk fun tk=>⟨.bl b,H,I.tok tk,rfl,q⟩
def ax (ans:D→Option Bool) (f:FE):FE:=fun δ=>(f δ).bind fun r=>(ans r.view).map fun b=>.sh (.bl b)
theorem eP {e c:Expr} {f:FE} {cv:V} {cu:Value} {ans:D→Option Bool} {p pos:Pos} (he:DE X e f) (hc:PE X c (tC cv)) (hcv:(∃ n,cv=.ty n)∨∃ a,cv=.ref a) (rc:RelV cv cu)
  (hk:∀ d b,ans d=some b→∃ t,TyD X.K d t∧PySem.W.kitOne X.K t cu=some b) (hg:Gl X "isinstance") (hm:X.mg "isinstance" = none)
  (hs:starEach [e,c] X.env=(false,eval e X.env)::starEach [c] X.env:=by rfl) (hs2:starEach [c] X.env=(false,eval c X.env)::starEach [] X.env:=by rfl) (hpl:(backTo pos (starEach [c] X.env)).any (·.1)=false:=by rfl) :
  DE X (.Call (.Name "isinstance" p) [e,c] [] pos) (ax ans f):=.mk <|
 (hG c_isinst hg hm PyProof.Rows.boot_isinstance (cz he.go (cz hc eZ hs2) hs) (he:=hs) (hpl:=hpl)).weak fun σ H Q ⟨Hs,δ,r,S,En,e,K⟩=>by
  unfold ax at e
  cases ef:f δ with
  | none=>rw [ef] at e;cases e
  | some rf=>
   rw [ef] at e
   replace e:(ans rf.view).map (fun b=>R.sh (.bl b))=some r:=e
   cases ea:ans rf.view with
   | none=>rw [ea] at e;cases e
   | some b=>
    rw [ea] at e
    cases e
    refine ⟨Hs,δ,rf,S,En,ef,fun x Hs1 H1 W1 R1=>?_⟩
    obtain ⟨t,ty,hkk⟩:=hk _ _ ea
    exact ⟨x,cv,cu,t,b,rfl,hcv,rc,ty.of W1.sub R1.view,hkk,K _ Hs1 H1 W1 (shB _ _ _ _)⟩
def lF (i j:Nat) (fa fb:FE):FS:=fun δ=>(fa δ).bind fun r=>(fb δ).bind fun t=>r.ent.bind fun e1=>t.ent.bind fun e2=>some (.nx ((δ.set i (some e1)).set j (some e2)))
theorem ds_par {i j:Nat} {x y:Str} {a b:Expr} {fa fb:FE} {px py pt pos:Pos} {kt k2 pt2} (hc:X.calm=true) (hN:X.N.Nodup) (hi:X.N[i]?=some x) (hj:X.N[j]?=some y) (hij:i≠j)
  (hx:X.env.scope.names.lookup x=some .local) (hy:X.env.scope.names.lookup y=some .local) (ha:DE X a fa) (hb:DE X b fb)
  (hw:swappedStores [.Tuple [.Name x px,.Name y py] kt pt] (.Tuple [a,b] k2 pt2) X.env=pure (some [x,y]))
  (hs:swapsWithSole [.Tuple [.Name x px,.Name y py] kt pt] (.Tuple [a,b] k2 pt2) pos.line X.env=pure false:=by rfl)
  (hs1:starEach [a,b] X.env=(false,eval a X.env)::starEach [b] X.env:=by rfl) (hs2:starEach [b] X.env=(false,eval b X.env)::starEach [] X.env:=by rfl) :
  DS X (.Assign [.Tuple [.Name x px,.Name y py] kt pt] (.Tuple [a,b] k2 pt2) pos) (lF i j fa fb):=.mk fun H0 Hs0=>
 (ps_par hc hN hi hj hij hx hy (cz ha.go (cz hb.go eZ hs2) hs1) hw hs).weak fun D σ H ⟨Hs,δ,res,W,S,e,P⟩=>by
  unfold lF at e
  cases ea:fa δ with
  | none=>rw [ea] at e;cases e
  | some r=>
   cases eb:fb δ with
   | none=>rw [ea,eb] at e;cases e
   | some t=>
    rw [ea,eb] at e
    replace e:(r.ent.bind fun e1=>t.ent.bind fun e2=>some (Res.nx ((δ.set i (some e1)).set j (some e2))))=some res:=e
    cases er:r.ent with
    | none=>rw [er] at e;cases e
    | some e1=>
     cases et:t.ent with
     | none=>rw [er,et] at e;cases e
     | some e2=>
      rw [er,et] at e
      cases e
      refine ⟨Hs,δ,r,W.sub,S.ent,ea,fun v Hs1 H1 W1 R1=>⟨Hs1,δ,t,W1.sub,S.ent.mono W1,eb,fun u Hs2 H2 W2 R2=>?_⟩⟩
      refine ⟨v,u,rfl,?_⟩
      have W12:=W1.trans W2
      have S2:=S.set (i:=i) W W12 (R1.mono W2) er
      have S3:StR H0 Hs2 H2 ((δ.set i (some e1)).set j (some e2)) ((σ.set i (some v)).set j (some u)):=by
       have R2':c7 H1 Hs2 H2 t u:=R2
       cases t with
       | sh d=>
        cases et
        exact S2.set (i:=j) (r:=.sh d) (W.trans W12) (.refl W2.sub) R2 rfl
       | fr ds=>
        cases et
        obtain ⟨p,vs,ep,n1,m,h1,h2⟩:=R2'
        have S1:=S.set (i:=i) W W1 R1 er
        exact S1.set (i:=j) (r:=.fr ds) (W.trans W1) W2 ⟨p,vs,ep,n1,m,h1,h2⟩ rfl
       | bw ds=>cases et
      exact P _ Hs2 H2 (W.trans W12) S3
end
end Ew
end
section
set_option Elab.async false
set_option linter.all false
set_option maxRecDepth 100000
namespace L2
open PySem PySem.Spec PyProof.Rows
section
variable {X:Cx} {a b c d:Expr} {ta tb tc td:TE} {pos:Pos}
def tChain3 (r r' r'':R2) (ta tb tc td:TE):TE:=fun σ H Q=>ta σ H fun x H1=>tb σ H1 fun y H2=>r x y H2 fun z H3=>∃ k,z=.bl k∧
 (if k=true then tc σ H3 fun w H4=>r' y w H4 fun z2 H5=>∃ k2,z2=.bl k2∧(if k2=true then td σ H5 fun w2 H6=>r'' w w2 H6 Q else Q (.bl false) H5) else Q (.bl false) H3)
theorem pe_chain3 {op op' op'':CmpOp} {r r' r'':R2} (ho:OpR X (compareOp op) r) (ho':OpR X (compareOp op') r') (ho'':OpR X (compareOp op'') r'') (ha:PE X a ta) (hb:PE X b tb) (hc:PE X c tc) (hd:PE X d td)
  (hm:lastMarks [op,op',op''] [b,c,d]=false:=by with_unfolding_all rfl):PE X (.Compare a [op,op',op''] [b,c,d] pos) (tChain3 r r' r'' ta tb tc td):=by
 intro pins s σ H Q I h
 refine Compare_chain (thn (ha pins s σ H _ I h) fun v s1 ⟨x,H1,I1,r1,q1⟩=>chain_link (thn (hb pins s1 σ H1 _ I1 q1) fun u s2 ⟨y,H2,I2,r2,q2⟩=>
  thn (ho pins s2 σ H2 x y v u _ I2 r1 r2 q2) fun d s3 ⟨z,H3,I3,r3,k,e,q3⟩=>?_)) hm
 subst e
 cases r3
 refine wpAny_truthy_bool ?_
 cases k with
 | false=>exact ite_ff ⟨.bl false,H3,I3,rfl,q3⟩
 | true=>
  refine ite_tt (chain_link (thn (hc pins s3 σ H3 _ I3 q3) fun w' s4 ⟨z',H4,I4,r4,q4⟩=>thn (ho' pins s4 σ H4 y z' u w' _ I4 r2 r4 q4) fun d2 s5 ⟨z2,H5,I5,r5,k2,e2,q5⟩=>?_))
  subst e2
  cases r5
  refine wpAny_truthy_bool ?_
  cases k2 with
  | false=>exact ite_ff ⟨.bl false,H5,I5,rfl,q5⟩
  | true=>exact ite_tt (chain_last (thn (hd pins s5 σ H5 _ I5 q5) fun w2 s6 ⟨z3,H6,I6,r6,q6⟩=>ho'' pins s6 σ H6 z' z3 w' w2 Q I6 r4 r6 q6))
end
end L2
namespace Ew
open PySem PySem.Spec L2
section
variable {X:Cx} {a b c d:Expr} {fa fb fc fd:FE} {pos:Pos} {o o' o'':D→D→Option R}
def ii (o o' o'':D→D→Option R) (fa fb fc fd:FE):FE:=fun δ=>(fa δ).bind fun a=>(fb δ).bind fun b=>(o a.view b.view).bind fun r=>match r with
 | .sh (.bl true)=>(fc δ).bind fun c=>(o' b.view c.view).bind fun r2=>match r2 with
  | .sh (.bl true)=>(fd δ).bind fun d=>o'' c.view d.view
  | .sh (.bl false)=>some (.sh (.bl false))
  | _=>none
 | .sh (.bl false)=>some (.sh (.bl false))
 | _=>none
theorem tD_chain3 {σ:St} {H:Hp} {Q:VK} (h:tD (ii o o' o'' fa fb fc fd) σ H Q):tChain3 (rD o) (rD o') (rD o'') (tD fa) (tD fb) (tD fc) (tD fd) σ H Q:=by
 obtain ⟨Hs,δ,r,S,En,e,K⟩:=h
 unfold ii at e
 cases ea:fa δ with
 | none=>simp only [ea] at e;cases e
 | some ra=>
  cases eb:fb δ with
  | none=>simp only [ea,eb] at e;cases e
  | some rb=>
   cases eo:o ra.view rb.view with
   | none=>simp only [ea,eb,eo,Option.bind] at e;cases e
   | some ro=>
    simp only [ea,eb,eo,Option.bind] at e
    refine ⟨Hs,δ,ra,S,En,ea,fun x Hs1 H1 W1 R1=>⟨Hs1,δ,rb,W1.sub,En.mono W1,eb,fun y Hs2 H2 W2 R2=>?_⟩⟩
    refine ⟨Hs2,ra.view,rb.view,ro,W2.sub,(R1.mono W2).view,R2.view,eo,fun v Hs3 H3 W3 R3=>?_⟩
    have W13:=W1.trans (W2.trans W3)
    match ro,e,R3 with
    | .sh (.bl false),e,R3=>
     cases e
     refine ⟨false,unB R3,?_⟩
     rw [if_neg Bool.false_ne_true]
     exact K _ Hs3 H3 W13 (shB _ _ _ _)
    | .sh (.bl true),e,R3=>
     refine ⟨true,unB R3,?_⟩
     rw [if_pos rfl]
     cases ec:fc δ with
     | none=>simp only [ec] at e;cases e
     | some rc=>
      cases eo2:o' rb.view rc.view with
      | none=>simp only [ec,eo2] at e;cases e
      | some ro2=>
       simp only [ec,eo2] at e
       refine ⟨Hs3,δ,rc,W3.sub,En.mono W13,ec,fun z Hs4 H4 W4 R4=>?_⟩
       refine ⟨Hs4,rb.view,rc.view,ro2,W4.sub,((R2.mono W3).mono W4).view,R4.view,eo2,fun v2 Hs5 H5 W5 R5=>?_⟩
       have W15:=W13.trans (W4.trans W5)
       match ro2,e,R5 with
       | .sh (.bl false),e,R5=>
        cases e
        refine ⟨false,unB R5,?_⟩
        rw [if_neg Bool.false_ne_true]
        exact K _ Hs5 H5 W15 (shB _ _ _ _)
       | .sh (.bl true),e,R5=>
        refine ⟨true,unB R5,?_⟩
        rw [if_pos rfl]
        cases ed:fd δ with
        | none=>simp only [ed] at e;cases e
        | some rd=>
         simp only [ed] at e
         refine ⟨Hs5,δ,rd,W5.sub,En.mono W15,ed,fun z2 Hs6 H6 W6 R6=>?_⟩
         refine ⟨Hs6,rc.view,rd.view,r,W6.sub,((R4.mono W5).mono W6).view,R6.view,e,fun v3 Hs7 H7 W7 R7=>?_⟩
         exact K v3 Hs7 H7 (W15.trans (W6.trans W7)) (R7.older (W15.keep.trans W6.keep))
theorem de_chain3 {op op' op'':CmpOp} (ho:OpR X (compareOp op) (rD o)) (ho':OpR X (compareOp op') (rD o')) (ho'':OpR X (compareOp op'') (rD o'')) (ha:DE X a fa) (hb:DE X b fb) (hc:DE X c fc) (hd:DE X d fd)
 (hm:lastMarks [op,op',op''] [b,c,d]=false:=by with_unfolding_all rfl):DE X (.Compare a [op,op',op''] [b,c,d] pos) (ii o o' o'' fa fb fc fd):=.mk <| (pe_chain3 ho ho' ho'' ha.go hb.go hc.go hd.go hm).weak fun _ _ _=>tD_chain3
end
end Ew
end
section
set_option Elab.async false
set_option linter.all false
set_option maxRecDepth 100000
namespace Ew
open PySem PySem.Spec L2
structure Df (K:PySem.W.Frag) (mg:Str→Option Value) (x qual:Str) (st:Stmt) (ps:List Str) (f:Addr) (fd:FuncData):Prop where
 fn:Fun K x qual st f fd
 mgx:mg x=some (.ref f)
 bd:Binds K fd ps []
section
variable {X:Cx} {e:Expr} {es:List Expr} {fr:DSt→Option (List R)} {x:Str} {p pos:Pos} {id T:String}
theorem de_u {qual:Str} {st:Stmt} {ps:List Str} {f:Addr} {fd:FuncData} {k n:Nat} {m:List D→Option D} (d:Df X.K X.mg x qual st ps f fd) (G:dM X.prog X.w X.K X.mg X.base CX0 k f fd ps (spD n m)) (hr:bq k X.A) (ha:DA X (e::es) fr)
 (hg:Gl X x:=by rfl) (hdb:(x==("__debug__" : Str))=false:=by decide) (he:starEach (e::es) X.env=(false,eval e X.env)::starEach es X.env:=by exact bF rfl) (hpl:(backTo pos (starEach es X.env)).any (·.1)=false:=by rfl) :
 DE X (.Call (.Name x p) (e::es) [] pos) (ay n m fr):=.mk <| (lZ (E:=E0) G hr hg d.mgx d.fn.kp d.bd .nil lC ha.go hdb he hpl).weak fun _ _ _=>tD_call
theorem de_m {C:Addr} {n:Nat} {m:List D→Option D} {fo:FE} (h:PE X e (tMeth C x (spD n m) [] E0 (tD fo) (tDA fr))):DE X e (bH C x n m fo fr):=.mk <| h.weak fun _ _ _=>tD_meth
theorem de_m0 {C:Addr} {n:Nat} {m:List D→Option D} {fo:FE} (h:PE X e (tMeth C x (spD n m) [] E0 (tD fo) tNil)):DE X e (bH C x n m fo af):=.mk <| h.weak fun σ H Q hq=>by
 obtain ⟨Hs,δ,r,S,En,e,K⟩:=tD_meth (E:=E0) hq
 refine ⟨Hs,δ,r,S,En,e,fun x0 Hs1 H1 W1 R1=>?_⟩
 obtain ⟨a,dx,fs,e1,h1,h2,Hs2,δ2,rs,S2,En2,e2,K2⟩:=K x0 Hs1 H1 W1 R1
 refine ⟨a,dx,fs,e1,h1,h2,?_⟩
 cases e2
 exact K2 [] Hs2 H1 (.refl S2) rfl
theorem de_b1 {o:D→Option R} (hc:cN X (.builtin id) (rC1 o)) (hv:bootBuiltins x=some (.builtin id)) (hm:X.mg x=none) (ha:DA X [e] fr) (hg:Gl X x:=by rfl) (hn:x≠"__name__":=by decide) (hdb:(x==("__debug__" : Str))=false:=by decide)
 (he:starEach [e] X.env=(false,eval e X.env)::starEach [] X.env:=by rfl):DE X (.Call (.Name x p) [e] [] pos) (az o fr):=.mk <| (hG hc hg hm hv ha.go hn hdb he rfl).weak fun _ _ _=>nl
theorem km {e2:Expr} {o:D→D→Option R} (hc:cN X (.builtin id) (rC2 o)) (hv:bootBuiltins x=some (.builtin id)) (hm:X.mg x=none) (ha:DA X [e,e2] fr) (hg:Gl X x:=by rfl) (hn:x≠"__name__":=by decide) (hdb:(x==("__debug__" : Str))=false:=by decide)
 (he:starEach [e,e2] X.env=(false,eval e X.env)::starEach [e2] X.env:=by rfl) (hpl:(backTo pos (starEach [e2] X.env)).any (·.1)=false:=by rfl):DE X (.Call (.Name x p) [e,e2] [] pos) (bo o fr):=.mk <| (hG hc hg hm hv ha.go hn hdb he hpl).weak fun _ _ _=>tD_call2
theorem de_t1 {o:D→Option R} (hc:cN X (.type T) (rC1 o)) (hv:bootBuiltins x=some (.type T)) (hm:X.mg x=none) (ha:DA X [e] fr) (hg:Gl X x:=by rfl) (hn:x≠"__name__":=by decide) (hdb:(x==("__debug__" : Str))=false:=by decide)
 (he:starEach [e] X.env=(false,eval e X.env)::starEach [] X.env:=by rfl):DE X (.Call (.Name x p) [e] [] pos) (az o fr):=.mk <| (iL hc hg hm hv ha.go hn hdb he rfl).weak fun _ _ _=>nl
end
def isC (C:Addr):Addr→Bool:=fun a=>a==C
theorem isC_of {C a:Addr} (h:isC C a=true):a=C:=by unfold isC at h;simpa using h
end Ew
namespace Ew
def dX:D→Option Bool
 | .int _=>some true
 | .bl _=>some true
 | .obj _ _=>none
 | _=>some false
def is_bool:D→Option Bool
 | .bl _=>some true
 | .obj _ _=>none
 | _=>some false
def fj:D→Option Bool
 | .lst _=>some true
 | .obj _ _=>none
 | _=>some false
def ij:D→Option Bool
 | .tup _=>some true
 | .obj _ _=>none
 | _=>some false
end Ew
end
section
set_option Elab.async false
set_option linter.all false
set_option maxRecDepth 100000
namespace Ew
open PySem PySem.Spec L2
section
variable {δ:DSt} {fa fb fc f:FE} {fr:DSt→Option (List R)} {t u:DSt→Option Bool} {F G:FS}
@[simp] theorem fY (i:Nat):ab i δ=match δ[i]? with
 | some (some (.sh d))=>some (.sh d)
 | some (some (.ow ds))=>some (.bw ds)
 | _=>none:=rfl
@[simp] theorem dcon_e (d:D):ac d δ=some (.sh d):=rfl
@[simp] theorem dbin_e (o:D→D→Option R):ad o fa fb δ=(fa δ).bind fun a=>(fb δ).bind fun b=>o a.view b.view:=rfl
@[simp] theorem dun_e (o:D→Option R):dun o fa δ=(fa δ).bind fun a=>o a.view:=rfl
@[simp] theorem dP:aj f δ=(f δ).bind R.bool:=rfl
@[simp] theorem dchain_e (o o':D→D→Option R):cO o o' fa fb fc δ=(fa δ).bind fun a=>(fb δ).bind fun b=>(o a.view b.view).bind fun r=>match r with
 | .sh (.bl true)=>(fc δ).bind fun c=>o' b.view c.view
 | .sh (.bl false)=>some (.sh (.bl false))
 | _=>none:=rfl
@[simp] theorem dchain3_e {fd:FE} (o o' o'':D→D→Option R):ii o o' o'' fa fb fc fd δ=(fa δ).bind fun a=>(fb δ).bind fun b=>(o a.view b.view).bind fun r=>match r with
 | .sh (.bl true)=>(fc δ).bind fun c=>(o' b.view c.view).bind fun r2=>match r2 with
  | .sh (.bl true)=>(fd δ).bind fun d=>o'' c.view d.view
  | .sh (.bl false)=>some (.sh (.bl false))
  | _=>none
 | .sh (.bl false)=>some (.sh (.bl false))
 | _=>none:=rfl
@[simp] theorem dtAnd_e:dW t u δ=(t δ).bind fun c=>if c=true then u δ else some false:=rfl
@[simp] theorem dtOr_e:cq t u δ=(t δ).bind fun c=>if c=true then some true else u δ:=rfl
@[simp] theorem jW:bh t δ=(t δ).map (!·):=rfl
@[simp] theorem dand_e:dand fa fb δ=(fa δ).bind fun r=>match r with
 | .sh (.bl true)=>fb δ
 | .sh (.bl false)=>some (.sh (.bl false))
 | _=>none:=rfl
@[simp] theorem dor_e:dor fa fb δ=(fa δ).bind fun r=>match r with
 | .sh (.bl true)=>some (.sh (.bl true))
 | .sh (.bl false)=>fb δ
 | _=>none:=rfl
@[simp] theorem dnot_e:dnot fa δ=(fa δ).bind fun r=>match r with
 | .sh (.bl b)=>some (.sh (.bl (!b)))
 | _=>none:=rfl
@[simp] theorem dif_e:dif t fa fb δ=(t δ).bind fun k=>if k=true then fa δ else fb δ:=rfl
@[simp] theorem eI:af δ=some []:=rfl
@[simp] theorem aN:aa fa fr δ=(fa δ).bind fun r=>(fr δ).bind fun rs=>some (r::rs):=rfl
@[simp] theorem dlst_e:cf fr δ=(fr δ).bind fun rs=>if cW rs=true∧rs.length≤big then some (.fr (rs.map R.view)) else none:=rfl
@[simp] theorem dtup_e:cg fr δ=(fr δ).bind fun rs=>if cW rs=true∧rs.length≤big then some (.sh (.tup (rs.map R.view))) else none:=rfl
@[simp] theorem mB (n:Nat) (m:List D→Option D):ay n m fr δ=(fr δ).bind (h7 n m):=rfl
@[simp] theorem dcallF_e (n:Nat) (m:List D→Option (List D)):dcallF n m fr δ=(fr δ).bind (mcallF n m):=rfl
@[simp] theorem jX (n:Nat) (m:List D→Option D) (rs:List R):h7 n m rs=(m (rs.map R.view)).bind fun d=>if rs.length=n∧(cW rs=true∨d.flat=true) then some (.sh d) else none:=rfl
@[simp] theorem mcallF_e (n:Nat) (m:List D→Option (List D)) (rs:List R):mcallF n m rs=(m (rs.map R.view)).bind fun d=>if rs.length=n∧cW rs=true then some (.fr d) else none:=rfl
@[simp] theorem kn (ok:Addr→Bool) (x:Str):bE ok x fa δ=(fa δ).bind fun r=>match r.view with
 | .obj C fs=>if ok C=true then (fs.lookup x).map .sh else none
 | _=>none:=rfl
@[simp] theorem dmeth_e (C:Addr) (name:Str) (n:Nat) (m:List D→Option D):bH C name n m fa fr δ=(fa δ).bind fun r=>match r.view with
 | .obj C' fs=>if C'=C∧fs.lookup name=none then (fr δ).bind fun rs=>h7 n m (r::rs) else none
 | _=>none:=rfl
@[simp] theorem dY (o:D→Option R):az o fr δ=(fr δ).bind fun rs=>match rs with
 | [r]=>o r.view
 | _=>none:=rfl
@[simp] theorem dcall2_e (o:D→D→Option R):bo o fr δ=(fr δ).bind fun rs=>match rs with
 | [r,s]=>o r.view s.view
 | _=>none:=rfl
@[simp] theorem bz (d:D):(R.sh d).view=d:=rfl
@[simp] theorem view_fr (ds:List D):(R.fr ds).view=.lst ds:=rfl
@[simp] theorem view_bw (ds:List D):(R.bw ds).view=.lst ds:=rfl
@[simp] theorem eB (d:D):(R.sh d).isBw=false:=rfl
@[simp] theorem isBw_fr (ds:List D):(R.fr ds).isBw=false:=rfl
@[simp] theorem isBw_bw (ds:List D):(R.bw ds).isBw=true:=rfl
@[simp] theorem bool_bl (b:Bool):(R.sh (.bl b)).bool=some b:=rfl
@[simp] theorem ent_sh (d:D):(R.sh d).ent=some (.sh d):=rfl
@[simp] theorem ent_fr (ds:List D):(R.fr ds).ent=some (.ow ds):=rfl
@[simp] theorem nJ:cW []=true:=rfl
@[simp] theorem lG (r:R) (rs:List R):cW (r::rs)=(!r.isBw&&cW rs):=rfl
@[simp] theorem flat_bl (b:Bool):(D.bl b).flat=true:=rfl
@[simp] theorem flat_int (b:Int):(D.int b).flat=true:=rfl
@[simp] theorem flat_non:D.non.flat=true:=rfl
@[simp] theorem mC:aT f δ=(f δ).bind fun r=>if r.isBw=true then none else some (.rt r):=rfl
@[simp] theorem sretv_e (i:Nat):h9 i δ=match δ[i]? with
 | some (some (.ow ds))=>some (.rt (.fr ds))
 | some (some (.sh d))=>some (.rt (.sh d))
 | some (some (.nw d))=>some (.rn d)
 | _=>none:=rfl
@[simp] theorem dB:sif t F G δ=(t δ).bind fun b=>if b=true then F δ else G δ:=rfl
@[simp] theorem fZ:ar F G δ=(F δ).bind (Res.thn G):=rfl
@[simp] theorem thn_nx (δ:DSt):Res.thn G (.nx δ)=G δ:=rfl
@[simp] theorem thn_rt (r:R):Res.thn G (.rt r)=some (.rt r):=rfl
@[simp] theorem thn_rn (d:D):Res.thn G (.rn d)=some (.rn d):=rfl
@[simp] theorem sskip_e:aI δ=some (.nx δ):=rfl
@[simp] theorem sset_e (i:Nat):sset i f δ=(f δ).bind fun r=>r.ent.bind fun en=>some (.nx (δ.set i (some en))):=rfl
@[simp] theorem iR (i:Nat):sfrz i F δ=F (frz i δ):=rfl
@[simp] theorem run_e (k:Nat) (F:FS) (ds:List D):Ew.run k F ds=match F (ds.map (fun d=>some (.sh d))++List.replicate (k-ds.length) none) with
 | some (.rt r)=>if r.isBw=true then none else some r.view
 | some (.nx _)=>some .non
 | some (.rn d)=>some d
 | _=>none:=rfl
@[simp] theorem isC_self (a:Addr):isC a a=true:=by unfold isC;simp
@[simp] theorem oAdd_ii (i j:Int):bI (.int i) (.int j)=some (.sh (.int (i+j))):=rfl
@[simp] theorem oSub_ii (i j:Int):oSub (.int i) (.int j)=some (.sh (.int (i-j))):=rfl
@[simp] theorem oLt_ii (i j:Int):oLt (.int i) (.int j)=some (.sh (.bl (decide (i<j)))):=rfl
@[simp] theorem oLe_ii (i j:Int):oLe (.int i) (.int j)=some (.sh (.bl (decide (i≤j)))):=rfl
@[simp] theorem oGt_ii (i j:Int):oGt (.int i) (.int j)=some (.sh (.bl (decide (j<i)))):=rfl
@[simp] theorem oGe_ii (i j:Int):oGe (.int i) (.int j)=some (.sh (.bl (decide (j≤i)))):=rfl
@[simp] theorem oLen_l (xs:List D):bx (.lst xs)=some (.sh (.int xs.length)):=rfl
@[simp] theorem oList_l (xs:List D):gw (.lst xs)=some (.fr xs):=rfl
@[simp] theorem oList_t (xs:List D):gw (.tup xs)=some (.fr xs):=rfl
@[simp] theorem oMin2_ii (i j:Int):eO (.int i) (.int j)=some (.sh (.int (if j<i then j else i))):=rfl
@[simp] theorem oMax2_ii (i j:Int):gA (.int i) (.int j)=some (.sh (.int (if j>i then j else i))):=rfl
@[simp] theorem oIx_l (xs:List D) (i:Int):oIx (.lst xs) (.int i)=(atI xs i).map .sh:=rfl
@[simp] theorem oIx_t (xs:List D) (i:Int):oIx (.tup xs) (.int i)=(atI xs i).map .sh:=rfl
@[simp] theorem dcomp_e (fi:DSt→Option (List D)) (g:GD) (c:DSt→Option Bool) (fe:FE) (m:Nat) (ix:List Nat):bZ fi g c fe m ix δ=(fi δ).bind fun items=>if items.length≤big then (cr g c fe (dIn m ix δ) items).map .fr else none:=rfl
@[simp] theorem fk:aZ f δ=(f δ).bind fun r=>if r.isBw=true then none else match r.view with
 | .lst ds=>some ds
 | _=>none:=rfl
@[simp] theorem cyes_e:eH δ=some true:=rfl
theorem cA (g:GD) (c:DSt→Option Bool) (fe:FE) (δ:DSt) {α:Type} (enc:α→D) (p:α→Bool) (out:α→D) (xs:List α)
  (h:∀ x∈xs,∃ δ1,g (enc x) δ=some δ1∧c δ1=some (p x)∧(p x=true→∃ r,fe δ1=some r∧r.isBw=false∧r.view=out x)) :
  cr g c fe δ (xs.map enc)=some ((xs.filter p).map out):=by
 induction xs with
 | nil=>rfl
 | cons x xs ih=>
  obtain ⟨δ1,h1,h2,h3⟩:=h x List.mem_cons_self
  have ih:=ih fun y hy=>h y (List.mem_cons_of_mem _ hy)
  rw [List.map_cons]
  unfold cr
  rw [h1]
  show ((c δ1).bind fun b=>if b=true then (fe δ1).bind fun r1=>if r1.isBw=true then none else (cr g c fe δ (xs.map enc)).bind fun t=>some (r1.view::t) else cr g c fe δ (xs.map enc))=_
  rw [h2]
  show (if p x=true then (fe δ1).bind fun r1=>if r1.isBw=true then none else (cr g c fe δ (xs.map enc)).bind fun t=>some (r1.view::t) else cr g c fe δ (xs.map enc))=_
  by_cases hp:p x=true
  ·
   obtain ⟨r,e1,e2,e3⟩:=h3 hp
   rw [if_pos hp,e1,ih]
   simp [e2,e3,hp,List.filter_cons]
  ·
   rw [if_neg hp,ih]
   simp [hp,List.filter_cons]
theorem di (i:Int):okD (.int i)=true:=by unfold okD;simp [D.plain,D.py,PyData.canLay0,PyData.depth]
theorem jY (i j:Int):eqP (.int i) (.int j)=decide (i=j):=by unfold eqP;simp [D.py,PyData.eqv];rfl
@[simp] theorem oEq_ii (i j:Int):oEq (.int i) (.int j)=some (.sh (.bl (decide (i=j)))):=by unfold oEq;rw [if_pos ⟨di i,di j⟩,jY]
@[simp] theorem oNe_ii (i j:Int):oNe (.int i) (.int j)=some (.sh (.bl (!decide (i=j)))):=by unfold oNe;rw [if_pos ⟨di i,di j⟩,jY]
theorem nK (ns:List Int):pys (ns.map .int)=ns.map PyData.int:=by rw [ff,List.map_map];rfl
theorem gN:∀ ds:List D,fX ds=ds.all D.plain
 | []=>by unfold fX;rfl
 | d::ds=>by unfold fX;rw [gN ds];rfl
theorem eJ:∀ ds:List PyData,PyData.canLayAll0 ds=ds.all PyData.canLay0
 | []=>by unfold PyData.canLayAll0;rfl
 | d::ds=>by unfold PyData.canLayAll0;rw [eJ ds];rfl
theorem f6 {k:Nat}:∀ {ds:List PyData},(∀ d∈ds,d.depth≤k)→PyData.depthAll ds≤k
 | [],_=>by unfold PyData.depthAll;exact Nat.zero_le _
 | d::ds,h=>by
  unfold PyData.depthAll
  exact Nat.max_le.mpr ⟨h d List.mem_cons_self,f6 fun e he=>h e (List.mem_cons_of_mem _ he)⟩
theorem nN {ds:List D} (h:∀ d∈ds,d.plain=true∧d.py.canLay0=true∧d.py.depth≤15):okD (.lst ds)=true:=by
 unfold okD
 rw [Bool.and_eq_true,Bool.and_eq_true]
 refine ⟨?_,?_,?_⟩
 ·
  unfold D.plain;rw [gN];exact List.all_eq_true.mpr fun d hd=>(h d hd).1
 ·
  unfold D.py PyData.canLay0;rw [eJ,ff];exact List.all_eq_true.mpr fun d hd=>by
   obtain ⟨e,he,rfl⟩:=List.mem_map.mp hd
   exact (h e he).2.1
 ·
  unfold D.py PyData.depth
  refine decide_eq_true ?_
  have:=f6 (k:=15) (ds:=pys ds) fun d hd=>by
   rw [ff] at hd
   obtain ⟨e,he,rfl⟩:=List.mem_map.mp hd
   exact (h e he).2.2
  omega
theorem ik (ns:List Int):okD (.lst (ns.map .int))=true:=nN fun d hd=>by
 obtain ⟨i,_,rfl⟩:=List.mem_map.mp hd
 obtain ⟨a,b,c⟩:=bC (di i)
 exact ⟨a,b,by unfold D.py PyData.depth;omega⟩
theorem jc:∀ (ns ms:List Int),PyData.eqvAll (ns.map PyData.int) (ms.map PyData.int)=decide (ns=ms)
 | [],[]=>by simp [PyData.eqvAll]
 | [],_::_=>by simp [PyData.eqvAll]
 | _::_,[]=>by simp [PyData.eqvAll]
 | n::ns,m::ms=>by
  simp only [List.map_cons,PyData.eqvAll,PyData.eqv,jc ns ms]
  by_cases h:n=m
  ·
   subst h;simp
  ·
   simp [h]
@[simp] theorem oEq_ints (ns ms:List Int):oEq (.lst (ns.map .int)) (.lst (ms.map .int))=some (.sh (.bl (decide (ns=ms)))):=by
 unfold oEq
 rw [if_pos ⟨ik ns,ik ms⟩]
 unfold eqP D.py PyData.eqv
 rw [nK,nK,jc]
theorem any_int (i:Int) (ns:List Int):((ns.map D.int).any fun y=>eqP y (.int i))=ns.contains i:=by
 rw [List.any_map,List.contains_eq_any_beq]
 congr 1
 funext y
 show eqP (.int y) (.int i)=(i==y)
 rw [jY,Bool.beq_eq_decide_eq]
 exact decide_eq_decide.mpr ⟨Eq.symm,Eq.symm⟩
@[simp] theorem oIn_ints (i:Int) (ns:List Int):oIn (.int i) (.lst (ns.map .int))=some (.sh (.bl (ns.contains i))):=by
 show (if okD (D.int i)=true∧okD (D.lst (List.map D.int ns))=true then some (R.sh (D.bl ((ns.map D.int).any fun y=>eqP y (D.int i)))) else none)=_
 rw [if_pos ⟨di i,ik ns⟩,any_int]
@[simp] theorem oNotIn_ints (i:Int) (ns:List Int):oNotIn (.int i) (.lst (ns.map .int))=some (.sh (.bl (!ns.contains i))):=by
 show (if okD (D.int i)=true∧okD (D.lst (List.map D.int ns))=true then some (R.sh (D.bl (!(ns.map D.int).any fun y=>eqP y (D.int i)))) else none)=_
 rw [if_pos ⟨di i,ik ns⟩,any_int]
end
end Ew
end
section
set_option Elab.async false
set_option linter.all false
set_option maxRecDepth 100000
namespace Ew
open PySem PySem.Spec L2
def tN (f:DSt→Option D):TE:=fun σ H Q=>∃ Hs δ d,aG Hs H∧eE Hs H δ σ∧f δ=some d∧∀ v Hs' H' L,Wd H Hs Hs' H'→Own H' d v L→(∀ a∈L,H a=none∧Hs' a=none)→Q v H'
structure DN (X:Cx) (e:Expr) (f:DSt→Option D):Prop where
 go:PE X e (tN f)
def tNA (f:DSt→Option (List D)):TA:=fun σ H Q=>∃ Hs δ ds,aG Hs H∧eE Hs H δ σ∧f δ=some ds∧∀ vs Hs' H' L,Wd H Hs Hs' H'→aE H' ds vs L→(∀ a∈L,H a=none∧Hs' a=none)→Q vs H'
structure DNA (X:Cx) (es:List Expr) (f:DSt→Option (List D)):Prop where
 go:PA X es (tNA f)
abbrev FN:=DSt→Option D
theorem Own.flat {H Hs:Hp} {d:D} {v:V} (hf:d.flat=true) (h:Rep Hs d v):Own H d v []:=by
 cases d with
 | lst _=>cases hf
 | tup _=>cases hf
 | obj _ _=>cases hf
 | _=>unfold Rep at h;unfold Own;exact ⟨h,rfl⟩
theorem aE.flat {H Hs:Hp}:∀ {ds:List D} {vs:List V},(ds.all D.flat)=true→au Hs ds vs→aE H ds vs []
 | [],_,_,h=>by unfold au at h;unfold aE;exact ⟨h,rfl⟩
 | d::ds,_,hf,h=>by
  unfold au at h
  obtain ⟨v,r,e,h1,h2⟩:=h
  rw [List.all_cons,Bool.and_eq_true] at hf
  unfold aE
  exact ⟨v,r,[],[],e,Own.flat hf.1 h1,aE.flat hf.2 h2,fun _ z=>(by cases z),rfl⟩
theorem aE.length {H:Hp}:∀ {ds:List D} {vs:List V} {L:List Addr},aE H ds vs L→vs.length=ds.length
 | [],_,_,h=>by unfold aE at h;rw [h.1];rfl
 | d::ds,_,_,h=>by
  unfold aE at h
  obtain ⟨v,r,M,N,e,h1,h2,_⟩:=h
  rw [e];simp [aE.length h2]
def R.toN:R→Option D
 | .sh d=>if d.flat=true then some d else none
 | .fr ds=>if ds.all D.flat=true then some (.lst ds) else none
 | .bw _=>none
def dC (f:FE):FN:=fun δ=>(f δ).bind R.toN
section
variable {X:Cx} {e a b c:Expr} {es:List Expr} {f:FE} {g h:FN} {gs:DSt→Option (List D)} {fr:DSt→Option (List R)} {pos:Pos} {n:Nat} {m:List D→Option D} {E:XK}
theorem c7.toN {H0 Hs H:Hp} {r:R} {v:V} {d:D} (h:c7 H0 Hs H r v) (e:r.toN=some d):∃ L,Own H d v L∧∀ a∈L,H0 a=none∧Hs a=none:=by
 cases r with
 | sh d'=>
  replace e:(if d'.flat=true then some d' else none)=some d:=e
  by_cases hf:d'.flat=true
  ·
   rw [if_pos hf] at e;cases e
   exact ⟨[],Own.flat hf h,fun _ z=>by cases z⟩
  ·
   rw [if_neg hf] at e;cases e
 | fr ds=>
  replace e:(if ds.all D.flat=true then some (D.lst ds) else none)=some d:=e
  by_cases hf:ds.all D.flat=true
  ·
   rw [if_pos hf] at e;cases e
   obtain ⟨a,vs,e1,n1,m1,h1,h2⟩:=h
   refine ⟨[a],?_,fun b hb=>?_⟩
   ·
    unfold Own
    exact ⟨a,vs,[],e1,h1,aE.flat hf h2,fun z=>(by cases z),rfl⟩
   ·
    rcases List.mem_cons.mp hb with rfl | hb
    ·
     exact ⟨n1,m1⟩
    ·
     cases hb
  ·
   rw [if_neg hf] at e;cases e
 | bw ds=>cases e
theorem dl (h:DE X e f):DN X e (dC f):=.mk <| h.go.weak fun σ H Q ⟨Hs,δ,d,S,En,e,K⟩=>by
 unfold dC at e
 cases ef:f δ with
 | none=>rw [ef] at e;cases e
 | some r=>
  rw [ef] at e
  refine ⟨Hs,δ,r,S,En,ef,fun v Hs1 H1 W1 R1=>?_⟩
  obtain ⟨L,o,n⟩:=R1.toN e
  exact K v Hs1 H1 L W1 o n
def dnw (g:FN):FE:=fun δ=>(g δ).map .sh
theorem de_dn (h:DN X e g):DE X e (dnw g):=.mk <| h.go.weak fun σ H Q ⟨Hs,δ,r,S,En,e,K⟩=>by
 unfold dnw at e
 cases ef:g δ with
 | none=>rw [ef] at e;cases e
 | some d=>
  rw [ef] at e;cases e
  refine ⟨Hs,δ,d,S,En,ef,fun v Hs1 H1 L W1 o n=>?_⟩
  obtain ⟨Hs2,q,s1,s2,s3⟩:=o.share W1.sub fun a ha=>(n a ha).2
  exact K v Hs2 H1 ⟨W1.keep,s1,W1.base.trans s2,fun a o e=>(s3 a o e).elim (W1.new a o) fun z=>.inr (n a z).1⟩ q
def ko:DSt→Option (List D):=fun _=>some []
def da (g:FN) (gs:DSt→Option (List D)):DSt→Option (List D):=fun δ=>(g δ).bind fun d=>(gs δ).bind fun ds=>some (d::ds)
theorem mD:DNA X [] ko:=.mk <| eZ.weak fun σ H Q ⟨Hs,δ,r,S,En,e,K⟩=>by
 cases e
 exact K [] Hs H [] (.refl S) (by unfold aE;exact ⟨rfl,rfl⟩) fun _ z=>by cases z
theorem eQ (ha:DN X e g) (hr:DNA X es gs) (hs:starEach (e::es) X.env=(false,eval e X.env)::starEach es X.env:=by exact bF rfl):DNA X (e::es) (da g gs):=
 .mk <| (cz ha.go hr.go hs).weak fun σ H Q ⟨Hs,δ,r,S,En,e,K⟩=>by
  unfold da at e
  cases ea:g δ with
  | none=>rw [ea] at e;cases e
  | some d=>
   cases eb:gs δ with
   | none=>rw [ea,eb] at e;cases e
   | some ds=>
    rw [ea,eb] at e
    cases e
    refine ⟨Hs,δ,d,S,En,ea,fun x Hs1 H1 L1 W1 O1 n1=>⟨Hs1,δ,ds,W1.sub,En.mono W1,eb,fun vs Hs2 H2 L2 W2 O2 n2=>?_⟩⟩
    refine K (x::vs) Hs2 H2 (L1++L2) (W1.trans W2) ?_ fun a ha=>?_
    ·
     unfold aE
     refine ⟨x,vs,L1,L2,rfl,O1.mono W2.keep,O2,fun a h1 h2=>?_,rfl⟩
     obtain ⟨o,ho⟩:=Own.cell _ O1 a h1
     rw [(n2 a h2).1] at ho;cases ho
    ·
     rcases List.mem_append.mp ha with h1 | h2
     ·
      obtain ⟨o,ho⟩:=Own.cell _ O1 a h1
      exact ⟨(n1 a h1).1,W2.stay ho (n1 a h1).2⟩
     ·
      exact ⟨W1.keep.free (n2 a h2).1,(n2 a h2).2⟩
def ntup (gs:DSt→Option (List D)):FN:=fun δ=>(gs δ).bind fun ds=>if ds.length≤big then some (.tup ds) else none
def nlst (gs:DSt→Option (List D)):FN:=fun δ=>(gs δ).bind fun ds=>if ds.length≤big then some (.lst ds) else none
theorem dn_tup {x1} (h:DNA X es gs):DN X (.Tuple es x1 pos) (ntup gs):=.mk <| (pe_tup h.go).weak fun σ H Q ⟨Hs,δ,r,S,En,e,K⟩=>by
 unfold ntup at e
 cases ea:gs δ with
 | none=>rw [ea] at e;cases e
 | some ds=>
  rw [ea] at e
  replace e:(if ds.length≤big then some (D.tup ds) else none)=some r:=e
  by_cases hc:ds.length≤big
  ·
   rw [if_pos hc] at e
   cases e
   refine ⟨Hs,δ,ds,S,En,ea,fun vs Hs1 H1 L W1 O n=>⟨?_,fun p hp=>?_⟩⟩
   ·
    rw [O.length];exact Nat.le_of_lt (bP hc)
   ·
    have np:p∉L:=fun z=>by
     obtain ⟨o,ho⟩:=aE.cell _ O p z
     rw [hp] at ho;cases ho
    refine K _ Hs1 _ (p::L) (W1.trans (.fresh W1.sub hp)) ?_ fun a ha=>?_
    ·
     unfold Own
     exact ⟨p,vs,L,rfl,aA,O.mono (.new hp),np,rfl⟩
    ·
     rcases List.mem_cons.mp ha with rfl | ha
     ·
      exact ⟨W1.keep.free hp,W1.sub.free hp⟩
     ·
      exact n a ha
  ·
   rw [if_neg hc] at e;cases e
def nif (t:DSt→Option Bool) (g h:FN):FN:=fun δ=>(t δ).bind fun k=>if k=true then g δ else h δ
theorem nO {tf:DSt→Option Bool} (hc:DT X c tf) (ha:DN X a g) (hb:DN X b h):DN X (.IfExp c a b pos) (nif tf g h):=.mk <| (gZ hc.go ha.go hb.go).weak fun σ H Q ⟨Hs,δ,r,S,En,e,K⟩=>by
 unfold nif at e
 cases ea:tf δ with
 | none=>rw [ea] at e;cases e
 | some k=>
  rw [ea] at e
  refine ⟨Hs,δ,k,S,En,ea,fun Hs1 H1 W1=>?_⟩
  have key:∀ {g':FN},g' δ=some r→tN g' σ H1 Q:=fun e=>⟨Hs1,δ,r,W1.sub,En.mono W1,e,fun v Hs2 H2 L W2 O n=>K v Hs2 H2 L (W1.trans W2) O fun a ha=>⟨W1.keep.free (n a ha).1,(n a ha).2⟩⟩
  cases k with
  | true=>show (if true=true then tN g σ H1 Q else tN h σ H1 Q);rw [if_pos rfl];exact key e
  | false=>show (if false=true then tN g σ H1 Q else tN h σ H1 Q);rw [if_neg Bool.false_ne_true];exact key e
end
def spN (n:Nat) (m:List D→Option D):Sp:=fun vs H Q _=>∃ Hs ds d,ds.length=n∧aG Hs H∧au Hs ds vs∧m ds=some d∧∀ v Hs' H' L,Wd H Hs Hs' H'→Own H' d v L→(∀ a∈L,H a=none∧Hs' a=none)→Q v H'
theorem spN_len {n:Nat} {m:List D→Option D} {vs:List V} {H:Hp} {Q:VK} {E:XK} (h:spN n m vs H Q E):vs.length=n:=by
 obtain ⟨Hs,ds,d,e,_,r,_⟩:=h
 rw [r.length,e]
def cP (n:Nat) (m:List D→Option D) (fa:DSt→Option (List R)):FN:=fun δ=>(fa δ).bind fun rs=>if rs.length=n∧cW rs=true then m (rs.map R.view) else none
theorem tN_call {n:Nat} {m:List D→Option D} {fr:DSt→Option (List R)} {E:XK} {σ:St} {H:Hp} {Q:VK} (h:tN (cP n m fr) σ H Q):tCall (spN n m) [] E (tDA fr) σ H Q:=by
 obtain ⟨Hs,δ,r,S,En,e,K⟩:=h
 unfold cP at e
 cases ea:fr δ with
 | none=>rw [ea] at e;cases e
 | some rs=>
  rw [ea] at e
  refine ⟨Hs,δ,rs,S,En,ea,fun vs Hs1 H1 W1 R1=>?_⟩
  replace e:(if rs.length=n∧cW rs=true then m (rs.map R.view) else none)=some r:=e
  by_cases hc:rs.length=n∧cW rs=true
  ·
   rw [if_pos hc] at e
   show spN n m (vs++[]) H1 Q E
   rw [List.append_nil]
   obtain ⟨Hs2,q1,q2,q3,q4⟩:=R1.freeze W1.sub
   have W2:Wd H Hs Hs2 H1:=⟨W1.keep,q2,W1.base.trans q3,fun a o e=>by
    rcases q4 (hZ hc.2) a o e with z | z
    ·
     exact W1.new a o z
    ·
     exact .inr z⟩
   exact ⟨Hs2,_,r,by rw [List.length_map];exact hc.1,q2,q1,e,fun v Hs3 H3 L W3 O n=>K v Hs3 H3 L (W2.trans W3) O fun a ha=>⟨W1.keep.free (n a ha).1,(n a ha).2⟩⟩
  ·
   rw [if_neg hc] at e;cases e
def runN (k:Nat) (F:FS) (ds:List D):Option D:=match F (ds.map (fun d=>some (.sh d))++List.replicate (k-ds.length) none) with
 | some (.rt r)=>r.toN
 | some (.nx _)=>some .non
 | some (.rn d)=>some d
 | _=>none
section
variable {P:Program} {w:World} {K:PySem.W.Frag} {mg:Str→Option Value} {base:Heap}
theorem fn_N {x qual:Str} {st:Stmt} {f:Addr} {fd:FuncData} {N ps:List Str} {k:Nat} {F:FS} (F0:Fun K x qual st f fd) (S:dN N ps (ap st))
  (h:∀ (cdv:Value) (A:Around) (outer:List Env) (s:Shared) (H:Hp) (E:XK),bq k (A.deeper (PyProof.Rows.envOfC qual (ap st) s.heap.objs.size f cdv))→DSs (jr CX0 P w K mg base N qual (ap st) f cdv A outer s H E).nox (aP st) F) :
  dM P w K mg base CX0 (k+1) f fd ps (spN ps.length (runN N.length F)):=by
 refine F0.ok S (fun vs H Q E hs=>spN_len hs) (fun cdv A outer s H vs Q E hr hs=>?_)
 obtain ⟨Hs,ds,d,hl,sub,r,em,post⟩:=hs
 refine ⟨_,(h cdv A outer s H E hr).go H Hs,?_⟩
 unfold runN at em
 cases eF:F (ds.map (fun d=>some (.sh d))++List.replicate (N.length-ds.length) none) with
 | none=>rw [eF] at em;cases em
 | some res=>
  rw [eF] at em
  refine ⟨Hs,_,res,.refl sub,ny r,eF,?_⟩
  cases res with
  | nx δ=>
   cases em
   exact fun σ Hs1 H1 W1 _=>post .non Hs1 H1 [] W1 (by unfold Own;exact ⟨rfl,rfl⟩) fun _ z=>by cases z
  | rt r1=>
   intro v Hs1 H1 W1 R1
   obtain ⟨L,o,n⟩:=R1.toN em
   exact post v Hs1 H1 L W1 o n
  | bk δ=>cases em
  | ct δ=>cases em
  | rn d'=>
   cases em
   exact fun v Hs1 H1 L W1 O n=>post v Hs1 H1 L W1 O n
end
def gC (i:Nat) (g:FN):FS:=fun δ=>(g δ).bind fun d=>some (.nx (δ.set i (some (.nw d))))
def il (g:FN):FS:=fun δ=>(g δ).bind fun d=>some (.rn d)
section
variable {X:Cx} {e:Expr} {g:FN} {pos:Pos}
theorem ts_setN {H0 Hs0:Hp} {i:Nat} {D:Ends} {σ:St} {H:Hp} (h:tS H0 Hs0 (gC i g) D σ H):tAsg (tN g) (lq i) D σ H:=by
 obtain ⟨Hs,δ,res,W,S,e,P⟩:=h
 unfold gC at e
 cases et:g δ with
 | none=>rw [et] at e;cases e
 | some d=>
  rw [et] at e
  cases e
  refine ⟨Hs,δ,d,W.sub,S.ent,et,fun v Hs1 H1 L W1 O n=>P _ Hs1 H1 (W.trans W1) (S.put W.keep W1 ⟨L,O,fun a ha=>(n a ha).2⟩ fun b ⟨L',O',hb⟩=>?_)⟩
  rw [Own.uniq d O' O] at hb
  exact (n b hb).1
theorem ds_setN {i:Nat} {x:Str} {pos':Pos} (hN:X.N.Nodup) (hi:X.N[i]?=some x) (hx:Loc X.env.scope x) (he:DN X e g) (hs:swapsWith e (some (.Name x pos')) pos.line X.env=pure false:=by rfl)
 (hf:X.fn x=true∨X.env.scope.names.lookup x=some .local:=by first | exact .inl rfl | exact .inr rfl | assumption):DS X (.Assign [.Name x pos'] e pos) (gC i g):=.mk fun H0 Hs0=>(ps_set hN hi hx he.go hs hf).weak fun _ _ _=>ts_setN
theorem f7 (h:DN X e g):DS X (.Return (some e) pos) (il g):=.mk fun H0 Hs0=>(j9 h.go).weak fun D σ H ⟨Hs,δ,res,W,S,e,P⟩=>by
 unfold il at e
 cases et:g δ with
 | none=>rw [et] at e;cases e
 | some d=>
  rw [et] at e
  cases e
  exact ⟨Hs,δ,d,W.sub,S.ent,et,fun v Hs1 H1 L W1 O n=>P v Hs1 H1 L (W.trans W1) O fun a ha=>⟨W.keep.free (n a ha).1,(n a ha).2⟩⟩
end
end Ew
end
section
set_option Elab.async false
set_option linter.all false
set_option maxRecDepth 100000
namespace Ew
open PySem PySem.Spec L2
theorem aE.snoc {H:Hp}:∀ {ds:List D} {vs:List V} {L M:List Addr} {d:D} {v:V},aE H ds vs L→Own H d v M→(∀ a∈L,a∉M)→aE H (ds++[d]) (vs++[v]) (L++M)
 | [],_,_,M,d,v,h,h',n=>by
  unfold aE at h
  obtain ⟨rfl,rfl⟩:=h
  show aE H [d] [v] M
  unfold aE
  exact ⟨v,[],M,[],rfl,h',by unfold aE;exact ⟨rfl,rfl⟩,fun _ _ z=>(by cases z),by simp⟩
 | c::ds,_,_,M,d,v,h,h',n=>by
  unfold aE at h
  obtain ⟨u,r,A,B,rfl,h1,h2,k,rfl⟩:=h
  have:=aE.snoc h2 h' fun a ha=>n a (List.mem_append_right _ ha)
  show aE H (c::(ds++[d])) (u::(r++[v])) _
  unfold aE
  refine ⟨u,r++[v],A,B++M,rfl,h1,this,fun a ha hb=>?_,by simp⟩
  rcases List.mem_append.mp hb with hb | hb
  ·
   exact k a ha hb
  ·
   exact n a (List.mem_append_left _ ha) hb
def cI (g:GD) (c:DSt→Option Bool) (fe:FN) (δ:DSt):List D→Option (List D)
 | []=>some []
 | d::r=>(g d δ).bind fun δ1=>(c δ1).bind fun b=>if b=true then (fe δ1).bind fun r1=>(cI g c fe δ r).bind fun t=>some (r1::t) else cI g c fe δ r
def kq (fi:DSt→Option (List D)) (g:GD) (c:DSt→Option Bool) (fe:FN) (m:Nat) (ix:List Nat):FN:=fun δ=>(fi δ).bind fun items=>if items.length≤big then (cI g c fe (dIn m ix δ) items).map .lst else none
theorem tN_comp {fi:DSt→Option (List D)} {ks:List Nat} {g:GD} {c:DSt→Option Bool} {fe:FN} {m:Nat} {ix:List Nat} (hk:∀ j∈ks,j<m) {σ:St} {H:Hp} {Q:VK} (h:tN (kq fi g c fe m ix) σ H Q) :
  tComp (tI fi) (tG ks g) (tDT c) (tN fe) m ix σ H Q:=by
 obtain ⟨Hs,δ,r,S,En,e,K⟩:=h
 unfold kq at e
 cases ei:fi δ with
 | none=>rw [ei] at e;cases e
 | some items=>
  rw [ei] at e
  replace e:(if items.length≤big then (cI g c fe (dIn m ix δ) items).map D.lst else none)=some r:=e
  by_cases hbig:items.length≤big
  ·
   rw [if_pos hbig] at e
   cases em:cI g c fe (dIn m ix δ) items with
   | none=>rw [em] at e;cases e
   | some out=>
    rw [em] at e
    cases e
    refine ⟨Hs,δ,items,S,En,ei,fun J Hs1 H1 W1 Y A hA=>?_⟩
    have En1:eE Hs1 H1 (dIn m ix δ) (e8 m ix σ):=entIn m ix (En.mono W1)
    have len1:(e8 m ix σ).length=(dIn m ix δ).length:=by unfold e8 dIn;simp
    have hA1:Hs1 A=none:=W1.sub.free hA
    refine ⟨fun i n σ' H'=>n=items.length-i∧i≤items.length∧σ'.length=(dIn m ix δ).length∧(∀ j,m≤j→σ'[j]?=(e8 m ix σ)[j]?)∧
     ∃ Hs' ds vs rest L,Wd H1 Hs1 Hs' H'∧Hs' A=none∧H' A=some (.lst vs)∧aE H' ds vs L∧(∀ a∈L,H1 a=none∧Hs' a=none∧a≠A)∧ds.length≤i∧cI g c fe (dIn m ix δ) (items.drop i)=some rest∧out=ds++rest,?_,?_⟩
    ·
     refine ⟨items.length,by simp,Nat.zero_le _,len1,fun _ _=>rfl,Hs1,[],[],out,[],⟨.new hA,W1.sub.trans (.new hA),.refl _,fun _ _ e=>.inl e⟩,hA1,aA,by unfold aE;exact ⟨rfl,rfl⟩,fun _ z=>(by cases z),Nat.zero_le _,by simpa using em,by simp⟩
    ·
     rintro i n σ1 H2 ⟨rfl,hi,hl1,hσ1,Hs2,ds,vs,rest,L,W2,hA2,hv2,r2,nL,hd2,e2,eo⟩
     by_cases hlt:i<items.length
     ·
      have hd:items[i]?=some items[i]:=by simp [hlt]
      obtain ⟨go,yl⟩:=(Y i Hs2 H2 W2.base W2.sub).1 _ hd
      refine .inr ⟨go,fun σ' H'=>i+1≤items.length∧σ'.length=(dIn m ix δ).length∧(∀ j,m≤j→σ'[j]?=(e8 m ix σ)[j]?)∧
       ∃ Hs' ds vs rest L,Wd H1 Hs1 Hs' H'∧Hs' A=none∧H' A=some (.lst vs)∧aE H' ds vs L∧(∀ a∈L,H1 a=none∧Hs' a=none∧a≠A)∧ds.length≤i+1∧cI g c fe (dIn m ix δ) (items.drop (i+1))=some rest∧out=ds++rest,
       fun σ' H' ⟨a,b,c',d'⟩=>⟨_,by omega,rfl,a,b,c',d'⟩,fun x H3 y=>?_⟩
      obtain ⟨Hs3,W3,rx⟩:=yl x H3 y
      have W13:=W2.trans W3
      have A3:=W3.stay hv2 hA2
      have v3:=W3.keep _ _ hv2
      have En3:eE Hs3 H3 (dIn m ix δ) σ1:=fun j en q=>by
       obtain ⟨v,hv,hr⟩:=(En1.mono W13) j en q
       exact ⟨v,by rw [hσ1 j (dIn_own q)];exact hv,hr⟩
      rw [List.drop_eq_getElem_cons hlt] at e2
      unfold cI at e2
      cases eg:g items[i] (dIn m ix δ) with
      | none=>rw [eg] at e2;cases e2
      | some δ2=>
       rw [eg] at e2
       refine ⟨Hs3,_,items[i],δ2,W3.sub,hl1,rx,eg,fun σ4 sr=>?_⟩
       have hl4:σ4.length=(dIn m ix δ).length:=by rw [sr.lenS];exact hl1
       have hσ4:∀ j,m≤j→σ4[j]?=(e8 m ix σ)[j]?:=fun j hj=>by
        rw [(sr.out j fun z=>Nat.not_lt.mpr hj (hk j z)).2];exact hσ1 j hj
       have En4:eE Hs3 H3 δ2 σ4:=sr.ent En3
       replace e2:((c δ2).bind fun b=>if b=true then (fe δ2).bind fun r1=>(cI g c fe (dIn m ix δ) (items.drop (i+1))).bind fun t=>some (r1::t) else cI g c fe (dIn m ix δ) (items.drop (i+1)))=some rest:=e2
       cases ec:c δ2 with
       | none=>rw [ec] at e2;cases e2
       | some b=>
        rw [ec] at e2
        refine ⟨Hs3,δ2,b,W3.sub,En4,ec,fun Hs5 H5 W5=>?_⟩
        have W15:=W13.trans W5
        have A5:=W5.stay v3 A3
        have v5:=W5.keep _ _ v3
        have k25:aG H2 H5:=W3.keep.trans W5.keep
        have nL5:∀ a∈L,H1 a=none∧Hs5 a=none∧a≠A:=fun a ha=>by
         obtain ⟨o,ho⟩:=aE.cell _ r2 a ha
         exact ⟨(nL a ha).1,W5.stay (W3.keep _ _ ho) (W3.stay ho (nL a ha).2.1),(nL a ha).2.2⟩
        cases b with
        | false=>
         simp only [Bool.false_eq_true,if_false]
         exact ⟨hlt,hl4,hσ4,Hs5,ds,vs,rest,L,W15,A5,v5,r2.mono k25,nL5,by omega,e2,eo⟩
        | true=>
         simp only [if_true]
         replace e2:((fe δ2).bind fun r1=>(cI g c fe (dIn m ix δ) (items.drop (i+1))).bind fun t=>some (r1::t))=some rest:=e2
         cases ef:fe δ2 with
         | none=>rw [ef] at e2;cases e2
         | some r1=>
          rw [ef] at e2
          replace e2:((cI g c fe (dIn m ix δ) (items.drop (i+1))).bind fun t=>some (r1::t))=some rest:=e2
          cases er:cI g c fe (dIn m ix δ) (items.drop (i+1)) with
          | none=>rw [er] at e2;cases e2
          | some t=>
           rw [er] at e2
           cases e2
           refine ⟨Hs5,δ2,r1,W5.sub,En4.mono W5,ef,fun v Hs7 H6 M W7 O6 n6=>?_⟩
           have A7:=W7.stay v5 A5
           have v7:=W7.keep _ _ v5
           have W17:=W15.trans W7
           have nA:H1 A=none:=hA
           have r5:=r2.mono k25
           have dj:∀ a∈L,a∉M:=fun a ha hm=>by
            obtain ⟨o,ho⟩:=aE.cell _ r5 a ha
            rw [(n6 a hm).1] at ho;cases ho
           have nM:∀ a∈M,a≠A:=fun a ha z=>by
            have:=(n6 a ha).1
            rw [z,v5] at this;cases this
           have nLM:∀ a∈L++M,H1 a=none∧Hs7 a=none∧a≠A:=fun a ha=>by
            rcases List.mem_append.mp ha with h | h
            ·
             obtain ⟨o,ho⟩:=aE.cell _ r5 a h
             exact ⟨(nL5 a h).1,W7.stay ho (nL5 a h).2.1,(nL5 a h).2.2⟩
            ·
             exact ⟨W15.keep.free (n6 a h).1,(n6 a h).2,nM a h⟩
           refine ⟨vs,v7,?_,hlt,hl4,hσ4,Hs7,ds++[r1],vs++[v],t,L++M,⟨fun b o q=>?_,fun b o q=>?_,W17.base,W17.new⟩,A7,aA,?_,nLM,by simp;omega,rfl,by rw [eo];simp⟩
           ·
            rw [r2.length];exact Nat.lt_of_le_of_lt hd2 (Nat.lt_trans hlt (bP hbig))
           ·
            rw [aB (aO q nA)];exact W17.keep _ _ q
           ·
            rw [aB (aO q A7)];exact W17.sub _ _ q
           ·
            exact ((r5.mono W7.keep).snoc O6 dj).agree _ fun a ha=>aB (nLM a ha).2.2
     ·
      have hi':i=items.length:=by omega
      subst hi'
      rw [List.drop_length] at e2
      cases e2
      refine .inl ⟨(Y _ Hs2 H2 W2.base W2.sub).2 (Nat.le_refl _),K _ Hs2 H2 (A::L) (W1.trans W2) ?_ fun a ha=>?_⟩
      ·
       rw [eo,List.append_nil]
       unfold Own
       exact ⟨A,vs,L,rfl,hv2,r2,fun z=>(nL A z).2.2 rfl,rfl⟩
      ·
       rcases List.mem_cons.mp ha with rfl | ha
       ·
        exact ⟨W1.keep.free hA,hA2⟩
       ·
        exact ⟨W1.keep.free (nL a ha).1,(nL a ha).2.1⟩
  ·
   rw [if_neg hbig] at e;cases e
section
variable {X:Cx} {tg elt iter:Expr} {ifs:List Expr} {scope:Scope} {pos:Pos} {N:List Str} {m:Nat} {ix:List Nat} {ks:List Nat} {g:GD} {c:DSt→Option Bool} {fe:FN} {fi:DSt→Option (List D)}
theorem dn_comp (hc:X.calm=true) (S:c6 X N m ix scope) (hk:∀ j∈ks,j<m) (hi:DI X tg iter fi)
  (hin:∀ cl C s H fp,DG (be X N scope cl C s H fp) tg ks g∧DIfs (be X N scope cl C s H fp) ifs c∧DN (be X N scope cl C s H fp) elt fe)
  (hs:∀ x,foldedSetIterable iter X.env x=pure x:=by intro _;rfl):DN X (.ListComp elt [⟨tg,iter,ifs,0⟩] scope pos) (kq fi g c fe m ix):=.mk <|
 (pe_comp hc S hi.go (fun cl C s H fp=>⟨(hin cl C s H fp).1.go,(hin cl C s H fp).2.1.go,(hin cl C s H fp).2.2.go⟩) hs).weak fun _ _ _=>tN_comp hk
end
end Ew
end
section
set_option Elab.async false
set_option linter.all false
set_option maxRecDepth 100000
namespace Ew
open PySem PySem.Spec L2
theorem aQ.snoc {H:Hp}:∀ {fs:List (Str×D)} {vs:List (Str×V)} {L M:List Addr} {f:Str} {d:D} {v:V},aQ H fs vs L→Own H d v M→(∀ a∈L,a∉M)→aQ H (fs++[(f,d)]) (vs++[(f,v)]) (L++M)
 | [],_,_,M,f,d,v,h,h',n=>by
  unfold aQ at h
  obtain ⟨rfl,rfl⟩:=h
  show aQ H [(f,d)] [(f,v)] M
  unfold aQ
  exact ⟨v,[],M,[],rfl,h',by unfold aQ;exact ⟨rfl,rfl⟩,fun _ _ z=>(by cases z),by simp⟩
 | c::fs,_,_,M,f,d,v,h,h',n=>by
  unfold aQ at h
  obtain ⟨u,r,A,B,rfl,h1,h2,k,rfl⟩:=h
  have:=aQ.snoc (f:=f) h2 h' fun a ha=>n a (List.mem_append_right _ ha)
  show aQ H (c::(fs++[(f,d)])) ((c.1,u)::(r++[(f,v)])) _
  unfold aQ
  refine ⟨u,r++[(f,v)],A,B++M,rfl,h1,this,fun a ha hb=>?_,by simp⟩
  rcases List.mem_append.mp hb with hb | hb
  ·
   exact k a ha hb
  ·
   exact n a (List.mem_append_left _ ha) hb
theorem aQ.length {H:Hp}:∀ {fs:List (Str×D)} {vs:List (Str×V)} {L:List Addr},aQ H fs vs L→vs.length=fs.length
 | [],_,_,h=>by unfold aQ at h;rw [h.1];rfl
 | d::ds,_,_,h=>by
  unfold aQ at h
  obtain ⟨v,r,M,N,e,h1,h2,_⟩:=h
  rw [e];simp [aQ.length h2]
theorem aQ.put_none {H:Hp} {f:Str} {v:V}:∀ {fs:List (Str×D)} {vs:List (Str×V)} {L:List Addr},aQ H fs vs L→fs.lookup f=none→fP f v vs=vs++[(f,v)]
  | [],_,_,h,_=>by unfold aQ at h;rw [h.1];rfl
  | (g,d)::fs,_,_,h,e=>by
    unfold aQ at h
    obtain ⟨u,r,A,B,rfl,h1,h2,k,rfl⟩:=h
    rw [List.lookup_cons] at e
    cases hx:f==g with
    | true=>rw [hx] at e;cases e
    | false=>
      rw [hx] at e
      unfold fP
      have:¬g=f:=fun z=>by subst z;simp at hx
      rw [if_neg this,aQ.put_none h2 e];rfl
def kr (C:Addr) (f:Str) (g:FN):FS:=fun δ=>match δ with
 | some (.on a (.obj C' fs))::r=>if C'=C∧fs.length<1000∧fs.lookup f=none then (g δ).bind fun d=>some (.nx (some (.on a (.obj C (fs++[(f,d)])))::r)) else none
 | _=>none
section
variable {X:Cx} {e:Expr} {g:FN}
theorem im {f x:Str} {xp pos pos':Pos} {C:Addr} (hx:PE X (.Name x xp) (eX 0)) (he:DN X e g) (hk:Cls X.K C∧NoAttr X.K C f)
  (hs:swapsWith e (some (.Attribute (.Name x xp) f pos')) pos.line X.env=pure false:=by rfl) :
  DS X (.Assign [.Attribute (.Name x xp) f pos'] e pos) (kr C f g):=.mk fun H0 Hs0=>
 (ps_fld hx he.go hs).weak fun D σ H ⟨Hs,δ,res,W,S,e,P⟩=>by
  match δ,e,S with
  | some (.on a (.obj C' fs))::r,e,S=>
   replace e:(if C'=C∧fs.length<1000∧fs.lookup f=none then (g (some (.on a (.obj C' fs))::r)).bind fun d=>some (Res.nx (some (.on a (.obj C (fs++[(f,d)])))::r)) else none)=some res:=e
   by_cases hc:C'=C∧fs.length<1000∧fs.lookup f=none
   ·
    rw [if_pos hc] at e
    obtain ⟨rfl,hl,hf⟩:=hc
    cases eg:g (some (.on a (.obj C' fs))::r) with
    | none=>rw [eg] at e;cases e
    | some d=>
     rw [eg] at e
     cases e
     refine ⟨Hs,_,d,W.sub,S.ent,eg,fun y Hs1 H1 L1 W1 O1 n1=>?_⟩
     obtain ⟨v,hv,ev,L,O,nL⟩:=S.ent 0 _ rfl
     have O':=O
     unfold Own at O
     obtain ⟨a',dx,fvs,M,e1,h1,h3,h2,nM,nM2,rfl⟩:=O
     rw [ev] at e1;cases e1
     subst ev
     refine ⟨_,hv,a,C',dx,fvs,rfl,W1.keep _ _ h1,hk.1,hk.2,by rw [h2.length];exact hl,?_⟩
     have na:∀ b∈L1,b∉a::dx::M:=fun b hb z=>by
      obtain ⟨o,ho⟩:=Own.cell _ O' b z
      rw [(n1 b hb).1] at ho;cases ho
     have nd:dx≠a:=fun z=>by rw [z,h1] at h3;cases h3
     have aM:Hs1 a=none:=W1.stay h1 (nL a List.mem_cons_self)
     have ON:Own (L2.upd H1 a (.ins C' dx (fvs++[(f,y)]))) (.obj C' (fs++[(f,d)])) (.ref a) (a::dx::(M++L1)):=by
      unfold Own
      refine ⟨a,dx,fvs++[(f,y)],M++L1,rfl,aA,?_,?_,fun z=>?_,fun z=>?_,rfl⟩
      ·
       rw [aB nd];exact W1.keep _ _ h3
      ·
       refine (aQ.snoc (h2.mono W1.keep) O1 fun b hb hb1=>na b hb1 (List.mem_cons_of_mem _ (List.mem_cons_of_mem _ hb))).agree _ fun b hb=>aB fun z=>?_
       subst z
       rcases List.mem_append.mp hb with hb | hb
       ·
        exact nM hb
       ·
        exact na _ hb List.mem_cons_self
      ·
       rcases List.mem_append.mp z with z | z
       ·
        exact nM z
       ·
        exact na _ z List.mem_cons_self
      ·
       rcases List.mem_append.mp z with z | z
       ·
        exact nM2 z
       ·
        exact na _ z (List.mem_cons_of_mem _ List.mem_cons_self)
     rw [h2.put_none hf]
     have:=S.upG (i:=0) (Hs':=Hs1) (H':=L2.upd H1 a (.ins C' dx (fvs++[(f,y)]))) (e':=.on a (.obj C' (fs++[(f,d)]))) (v':=.ref a) W rfl hv (fun b o n eb=>by
       have:b≠a:=fun z=>n ⟨_,O',by rw [z];exact List.mem_cons_self⟩
       rw [aB this];exact W1.keep _ _ eb) (fun b o eb=>by rw [aB (aO eb aM)];exact W1.sub _ _ eb) W1.base W1.new
       ⟨rfl,_,ON,fun b hb=>by
        rcases List.mem_cons.mp hb with rfl | hb
        ·
         exact aM
        ·
         rcases List.mem_cons.mp hb with rfl | hb
         ·
          exact W1.stay h3 (nL _ (List.mem_cons_of_mem _ List.mem_cons_self))
         ·
          rcases List.mem_append.mp hb with hb | hb
          ·
           obtain ⟨o,ho⟩:=aQ.cell _ h2 b hb
           exact W1.stay ho (nL _ (List.mem_cons_of_mem _ (List.mem_cons_of_mem _ hb)))
          ·
           exact (n1 b hb).2⟩
       (fun b ⟨L',f',hb⟩=>by
        rw [Own.uniq _ f' ON] at hb
        rcases List.mem_cons.mp hb with rfl | hb
        ·
         exact .inl ⟨_,O',List.mem_cons_self⟩
        ·
         rcases List.mem_cons.mp hb with rfl | hb
         ·
          exact .inl ⟨_,O',List.mem_cons_of_mem _ List.mem_cons_self⟩
         ·
          rcases List.mem_append.mp hb with hb | hb
          ·
           exact .inl ⟨_,O',List.mem_cons_of_mem _ (List.mem_cons_of_mem _ hb)⟩
          ·
           exact .inr (n1 b hb).1)
     rw [set_same hv] at this
     exact P σ Hs1 _ this.1 this.2
   ·
    rw [if_neg hc] at e;cases e
end
def spIN (C:Addr) (n:Nat) (m:List D→Option (List (Str×D))):Sp:=fun vs H Q _=>∃ H1 Hs p dx us ds fs,ds.length=n∧vs=.ref p::us∧H=L2.upd (L2.upd H1 dx (.own p)) p (.ins C dx [])∧H1 p=none∧H1 dx=none∧dx≠p∧aG Hs H1∧au Hs ds us∧m ds=some fs∧
 ∀ Hs' H' L,Wd H1 Hs Hs' H'→Own H' (.obj C fs) (.ref p) L→(∀ a∈L,H1 a=none∧Hs' a=none)→Q .non H'
def f8 (k:Nat) (C:Addr) (F:FS) (ds:List D) (p:Addr):Option (List (Str×D)):=match F (some (.on p (.obj C []))::(ds.map (fun d=>some (.sh d))++List.replicate (k-(ds.length+1)) none)) with
 | some (.nx (some (.on a (.obj C' fs))::_))=>if a=p∧C'=C then some fs else none
 | _=>none
section
variable {P:Program} {w:World} {K:PySem.W.Frag} {mg:Str→Option Value} {base:Heap}
theorem fn_IN {x qual:Str} {st:Stmt} {f C:Addr} {fd:FuncData} {N ps:List Str} {k n:Nat} {F:FS} {m:List D→Option (List (Str×D))} (hn:ps.length=n+1) (F0:Fun K x qual st f fd) (S:dN N ps (ap st))
  (hm:∀ ds fs,m ds=some fs→∀ p,f8 N.length C F ds p=some fs)
  (h:∀ (cdv:Value) (A:Around) (outer:List Env) (s:Shared) (H:Hp) (E:XK),bq k (A.deeper (PyProof.Rows.envOfC qual (ap st) s.heap.objs.size f cdv))→DSs (jr CX0 P w K mg base N qual (ap st) f cdv A outer s H E).nox (aP st) F) :
  dM P w K mg base CX0 (k+1) f fd ps (spIN C n m):=by
 refine F0.ok S (fun vs H Q E' hs=>?_) (fun cdv A outer s H vs Q E' hr hs=>?_)
 ·
  obtain ⟨H1,Hs,p,dx,us,ds,fs,e1,rfl,_,_,_,_,_,r,_⟩:=hs
  rw [List.length_cons,r.length,e1,hn]
 ·
  obtain ⟨H1,Hs,p,dx,us,ds,fs,e1,rfl,rfl,np,nd,ne,sub,r,em,post⟩:=hs
  refine ⟨_,(h cdv A outer s _ E' hr).go H1 Hs,?_⟩
  have em:=hm ds fs em p
  unfold f8 at em
  have np':(L2.upd H1 dx (.own p)) p=none:=by rw [aB (Ne.symm ne)];exact np
  have W0:Wd H1 Hs Hs (L2.upd (L2.upd H1 dx (.own p)) p (.ins C dx [])):=(Wd.fresh sub nd).trans (.fresh (sub.trans (.new nd)) np')
  have hsp:Hs p=none:=sub.free np
  have hsd:Hs dx=none:=sub.free nd
  have O0:Own (L2.upd (L2.upd H1 dx (.own p)) p (.ins C dx [])) (.obj C []) (.ref p) [p,dx]:=by
   unfold Own
   refine ⟨p,dx,[],[],rfl,aA,?_,by unfold aQ;exact ⟨rfl,rfl⟩,fun z=>(by cases z),fun z=>(by cases z),rfl⟩
   rw [aB ne,aA]
  have in2:∀ b∈[p,dx],H1 b=none∧Hs b=none:=fun b hb=>by
   rcases List.mem_cons.mp hb with rfl | hb
   ·
    exact ⟨np,hsp⟩
   ·
    rcases List.mem_cons.mp hb with rfl | hb
    ·
     exact ⟨nd,hsd⟩
    ·
     cases hb
  have St0:StR H1 Hs (L2.upd (L2.upd H1 dx (.own p)) p (.ins C dx [])) (some (.on p (.obj C []))::(ds.map (fun d=>some (E.sh d))++List.replicate (N.length-(ds.length+1)) none)) (L2.start N (.ref p::us)):=by
   have hN:n+1≤N.length:=by
    have:=congrArg List.length S.pre
    rw [List.length_take,hn] at this
    omega
   have get:∀ (i:Nat) (en:E),(ds.map (fun d=>some (E.sh d))++List.replicate (N.length-(ds.length+1)) none)[i]?=some (some en)→∃ d,ds[i]?=some d∧en=E.sh d:=fun i en h=>by
    by_cases hi:i<ds.length
    ·
     rw [List.getElem?_append_left (by simpa using hi),List.getElem?_map] at h
     cases q:ds[i]? with
     | none=>rw [q] at h;cases h
     | some d=>rw [q] at h;cases h;exact ⟨d,rfl,rfl⟩
    ·
     rw [List.getElem?_append_right (by simpa using hi),List.getElem?_replicate] at h
     split at h <;> cases h
   refine ⟨fun i en h=>?_,?_,fun i e v b h hv f=>?_,fun i j e e' v v' b hij h h' _ _ f f'=>?_⟩
   ·
    cases i with
    | zero=>
     cases h
     exact ⟨.ref p,rfl,rfl,[p,dx],O0,fun b hb=>(in2 b hb).2⟩
    | succ i=>
     obtain ⟨d,hd,rfl⟩:=get i en (by simpa using h)
     obtain ⟨v,hv,rv⟩:=r.get hd
     refine ⟨v,?_,rv⟩
     unfold L2.start
     have hi:i<us.length:=(List.getElem?_eq_some_iff.mp hv).1
     rw [List.map_cons,List.cons_append,List.getElem?_cons_succ,List.getElem?_append_left (by simpa using hi),List.getElem?_map,hv]
     rfl
   ·
    unfold L2.start
    simp [r.length]
   ·
    cases i with
    | zero=>
     cases h
     have hv':(some (some (V.ref p)):Option (Option V))=some (some v):=hv
     cases hv'
     obtain ⟨L,O,hb⟩:=f
     rw [Own.uniq _ O O0] at hb
     exact (in2 b hb).1
    | succ i=>obtain ⟨d,_,z⟩:=get i _ (by simpa using h);rw [z] at f;cases f
   ·
    cases i with
    | zero=>
     cases j with
     | zero=>exact hij rfl
     | succ j=>obtain ⟨d,_,z⟩:=get j _ (by simpa using h');rw [z] at f';cases f'
    | succ i=>obtain ⟨d,_,z⟩:=get i _ (by simpa using h);rw [z] at f;cases f
  cases eF:F (some (.on p (.obj C []))::(ds.map (fun d=>some (E.sh d))++List.replicate (N.length-(ds.length+1)) none)) with
  | none=>rw [eF] at em;cases em
  | some res=>
   rw [eF] at em
   refine ⟨Hs,_,res,W0,St0,eF,?_⟩
   match res,em with
   | .nx (some (.on a (.obj C' fs'))::rest),em=>
    by_cases hc:a=p∧C'=C
    ·
     simp only [if_pos hc] at em
     cases em
     obtain ⟨rfl,rfl⟩:=hc
     intro σ Hs1 H1' W1 S1
     obtain ⟨v,hv,ev,L,O,nL⟩:=S1.ent 0 _ rfl
     subst ev
     exact post Hs1 H1' L W1 O fun b hb=>⟨S1.new 0 _ _ b rfl hv ⟨L,O,hb⟩,nL b hb⟩
    ·
     simp only [if_neg hc] at em;cases em
end
def f9 (C:Addr) (n:Nat) (m:List D→Option (List (Str×D))) (fa:DSt→Option (List R)):FN:=fun δ=>(fa δ).bind fun rs=>if rs.length=n∧cW rs=true then (m (rs.map R.view)).map (.obj C) else none
theorem tN_make {C:Addr} {n:Nat} {m:List D→Option (List (Str×D))} {fr:DSt→Option (List R)} {E:XK} {σ:St} {H:Hp} {Q:VK} (h:tN (f9 C n m fr) σ H Q):tMake C (spIN C n m) [] E (tDA fr) σ H Q:=by
 obtain ⟨Hs,δ,r,S,En,e,K⟩:=h
 unfold f9 at e
 cases ea:fr δ with
 | none=>rw [ea] at e;cases e
 | some rs=>
  rw [ea] at e
  replace e:(if rs.length=n∧cW rs=true then (m (rs.map R.view)).map (.obj C) else none)=some r:=e
  refine ⟨Hs,δ,rs,S,En,ea,fun vs Hs1 H1 W1 R1 x dx nx nd ne=>?_⟩
  by_cases hc:rs.length=n∧cW rs=true
  ·
   rw [if_pos hc] at e
   cases em:m (rs.map R.view) with
   | none=>rw [em] at e;cases e
   | some fs=>
    rw [em] at e
    cases e
    obtain ⟨Hs2,q1,q2,q3,q4⟩:=R1.freeze W1.sub
    have W2:Wd H Hs Hs2 H1:=⟨W1.keep,q2,W1.base.trans q3,fun a o e=>by
     rcases q4 (hZ hc.2) a o e with z | z
     ·
      exact W1.new a o z
     ·
      exact .inr z⟩
    rw [List.append_nil]
    refine ⟨H1,Hs2,x,dx,vs,_,fs,by rw [List.length_map];exact hc.1,rfl,rfl,nx,nd,ne,q2,q1,em,fun Hs3 H3 L W3 O n3=>⟨rfl,?_⟩⟩
    exact K (.ref x) Hs3 H3 L (W2.trans W3) O fun a ha=>⟨W1.keep.free (n3 a ha).1,(n3 a ha).2⟩
  ·
   rw [if_neg hc] at e;cases e
def eR (i:Nat) (t:DSt→Option Bool) (F G:FS):FS:=fun δ=>(t (frz i δ)).bind fun b=>if b=true then F δ else G δ
theorem Wd.lend {H Hs Hs1 Hs2 H2:Hp} (s:aG Hs H) (w:Wd H Hs1 Hs2 H2):Wd H Hs Hs H2:=⟨w.keep,s.trans w.keep,.refl _,fun _ _ e=>.inl e⟩
section
variable {X:Cx} {c e:Expr} {a b:List Stmt} {t:DSt→Option Bool} {F G:FS} {f:FE} {pos:Pos}
theorem ds_ifB {i:Nat} (hc:DT X c t) (ha:DSs X a F) (hb:DSs X b G):DS X (.If c a b pos) (eR i t F G):=.mk fun H0 Hs0=>(ps_if hc.go (ha.go H0 Hs0) (hb.go H0 Hs0)).weak fun D σ H ⟨Hs,δ,res,W,S,e,P⟩=>by
 unfold eR at e
 cases et:t (frz i δ) with
 | none=>rw [et] at e;cases e
 | some k=>
  rw [et] at e
  obtain ⟨Hs1,W1,S1⟩:=S.frz (i:=i) W
  refine ⟨Hs1,_,k,W1.sub,S1.ent,et,fun Hs2 H2 W2=>?_⟩
  have W3:=W2.lend W.sub
  cases k with
  | true=>show (if true=true then tS H0 Hs0 F D σ H2 else tS H0 Hs0 G D σ H2);rw [if_pos rfl];exact ⟨Hs,δ,res,W.trans W3,S.mono W3,e,P⟩
  | false=>show (if false=true then tS H0 Hs0 F D σ H2 else tS H0 Hs0 G D σ H2);rw [if_neg Bool.false_ne_true];exact ⟨Hs,δ,res,W.trans W3,S.mono W3,e,P⟩
end
end Ew
end
section
set_option Elab.async false
set_option linter.all false
set_option maxRecDepth 100000
namespace Ew
open PySem PySem.Spec L2
def oIs:D→D→Option R
 | .bl b,.bl c=>some (.sh (.bl (decide (b=c))))
 | .non,.bl _=>some (.sh (.bl false))
 | .int _,.bl _=>some (.sh (.bl false))
 | .str _,.bl _=>some (.sh (.bl false))
 | .lst _,.bl _=>some (.sh (.bl false))
 | .tup _,.bl _=>some (.sh (.bl false))
 | .obj _ _,.bl _=>some (.sh (.bl false))
 | .non,.non=>some (.sh (.bl true))
 | .bl _,.non=>some (.sh (.bl false))
 | .int _,.non=>some (.sh (.bl false))
 | .str _,.non=>some (.sh (.bl false))
 | .lst _,.non=>some (.sh (.bl false))
 | .tup _,.non=>some (.sh (.bl false))
 | .obj _ _,.non=>some (.sh (.bl false))
 | _,_=>none
def gO (a b:D):Option R:=(oIs a b).bind fun r=>match r with
 | .sh (.bl x)=>some (.sh (.bl (!x)))
 | _=>none
section
variable {X:Cx}
theorem is_vals {H Hs:Hp} {a b:D} {x y:V} {v u:Value} {r:R} (S:aG Hs H) (va:View Hs H a x) (vb:View Hs H b y) (rx:RelV x v) (ry:RelV y u) (e:oIs a b=some r):plainIs v u=true∧r=.sh (.bl (v==u)):=by
 have key:∀ (x:V),RelV x v→(∀ q,x≠.bl q)→(∀ n,x≠.ty n)→(x=.non→v=.none)∧∀ c,plainIs v (.bool c)=true∧(v==Value.bool c)=false∧plainIs v .none=true∧(x≠.non→(v==Value.none)=false):=fun x rx nq nt=>by
  cases x with
  | non=>cases rx;exact ⟨fun _=>rfl,fun c=>⟨rfl,rfl,rfl,fun z=>absurd rfl z⟩⟩
  | bl q=>exact absurd rfl (nq q)
  | int i=>obtain ⟨t,rfl⟩:=rx;exact ⟨fun z=>(by cases z),fun c=>⟨rfl,rfl,rfl,fun _=>rfl⟩⟩
  | str i=>obtain ⟨t,rfl⟩:=rx;exact ⟨fun z=>(by cases z),fun c=>⟨rfl,rfl,rfl,fun _=>rfl⟩⟩
  | byt i=>obtain ⟨t,rfl⟩:=rx;exact ⟨fun z=>(by cases z),fun c=>⟨rfl,rfl,rfl,fun _=>rfl⟩⟩
  | flt i=>obtain ⟨t,rfl⟩:=rx;exact ⟨fun z=>(by cases z),fun c=>⟨rfl,rfl,rfl,fun _=>rfl⟩⟩
  | ref i=>cases rx;exact ⟨fun z=>(by cases z),fun c=>⟨rfl,rfl,rfl,fun _=>rfl⟩⟩
  | ty n=>exact absurd rfl (nt n)
 have fin:∀ {x:V},RelV x v→(∀ q,x≠.bl q)→(∀ n,x≠.ty n)→x≠.non→((∃ c,y=.bl c)∨y=.non)→r=.sh (.bl false)→plainIs v u=true∧r=.sh (.bl (v==u)):=fun {x} rx nq nt nn hy er=>by
  have:=(key x rx nq nt).2
  rcases hy with ⟨c,rfl⟩ | rfl
  ·
   cases ry;rw [er,(this c).2.1];exact ⟨(this c).1,rfl⟩
  ·
   cases ry;rw [er,(this true).2.2.2 nn];exact ⟨(this true).2.2.1,rfl⟩
 match a,b,e,va,vb with
 | .bl p,.bl c,e,va,vb=>
  cases e
  have h1:=va.bl;have h2:=vb.bl
  subst h1;subst h2
  cases rx;cases ry
  refine ⟨rfl,?_⟩
  cases p <;> cases c <;> rfl
 | .non,.non,e,va,vb=>
  cases e
  have h1:=va.non;have h2:=vb.non
  subst h1;subst h2
  cases rx;cases ry
  exact ⟨rfl,rfl⟩
 | .non,.bl c,e,va,vb=>
  cases e
  have h1:=va.non;have h2:=vb.bl
  subst h1;subst h2
  cases rx;cases ry
  exact ⟨rfl,rfl⟩
 | .bl p,.non,e,va,vb=>
  cases e
  have h1:=va.bl;have h2:=vb.non
  subst h1;subst h2
  cases rx;cases ry
  exact ⟨rfl,rfl⟩
 | .int _,.bl _,e,va,vb=>cases e;have h1:=va.int;subst h1;exact fin rx (fun _ z=>by cases z) (fun _ z=>by cases z) (fun z=>by cases z) (.inl ⟨_,vb.bl⟩) rfl
 | .str _,.bl _,e,va,vb=>cases e;have h1:=va.str;subst h1;exact fin rx (fun _ z=>by cases z) (fun _ z=>by cases z) (fun z=>by cases z) (.inl ⟨_,vb.bl⟩) rfl
 | .lst _,.bl _,e,va,vb=>cases e;obtain ⟨a,vs,h1,_⟩:=va.lst S;subst h1;exact fin rx (fun _ z=>by cases z) (fun _ z=>by cases z) (fun z=>by cases z) (.inl ⟨_,vb.bl⟩) rfl
 | .tup _,.bl _,e,va,vb=>cases e;obtain ⟨a,vs,h1,_⟩:=va.tup S;subst h1;exact fin rx (fun _ z=>by cases z) (fun _ z=>by cases z) (fun z=>by cases z) (.inl ⟨_,vb.bl⟩) rfl
 | .obj _ _,.bl _,e,va,vb=>cases e;obtain ⟨a,dx,vs,h1,_⟩:=va.obj S;subst h1;exact fin rx (fun _ z=>by cases z) (fun _ z=>by cases z) (fun z=>by cases z) (.inl ⟨_,vb.bl⟩) rfl
 | .int _,.non,e,va,vb=>cases e;have h1:=va.int;subst h1;exact fin rx (fun _ z=>by cases z) (fun _ z=>by cases z) (fun z=>by cases z) (.inr vb.non) rfl
 | .str _,.non,e,va,vb=>cases e;have h1:=va.str;subst h1;exact fin rx (fun _ z=>by cases z) (fun _ z=>by cases z) (fun z=>by cases z) (.inr vb.non) rfl
 | .lst _,.non,e,va,vb=>cases e;obtain ⟨a,vs,h1,_⟩:=va.lst S;subst h1;exact fin rx (fun _ z=>by cases z) (fun _ z=>by cases z) (fun z=>by cases z) (.inr vb.non) rfl
 | .tup _,.non,e,va,vb=>cases e;obtain ⟨a,vs,h1,_⟩:=va.tup S;subst h1;exact fin rx (fun _ z=>by cases z) (fun _ z=>by cases z) (fun z=>by cases z) (.inr vb.non) rfl
 | .obj _ _,.non,e,va,vb=>cases e;obtain ⟨a,dx,vs,h1,_⟩:=va.obj S;subst h1;exact fin rx (fun _ z=>by cases z) (fun _ z=>by cases z) (fun z=>by cases z) (.inr vb.non) rfl
theorem op_oIs:OpR X (compareOp .Is) (rD oIs):=by
 intro pins s σ H x y v u Q I rx ry h
 obtain ⟨Hs,a,b,r,S,va,vb,e,K⟩:=h
 obtain ⟨hp,rfl⟩:=is_vals S va vb rx ry e
 exact wpAny_is_plain hp (fin_bl I (K (.bl (v==u)) Hs H (.refl S) (shB _ _ _ _)) rfl)
theorem lH:OpR X (compareOp .IsNot) (rD gO):=by
 intro pins s σ H x y v u Q I rx ry h
 obtain ⟨Hs,a,b,r,S,va,vb,e,K⟩:=h
 unfold gO at e
 cases eo:oIs a b with
 | none=>rw [eo] at e;cases e
 | some r0=>
  rw [eo] at e
  obtain ⟨hp,rfl⟩:=is_vals S va vb rx ry eo
  cases e
  exact wpAny_isNot_plain hp (fin_bl I (K (.bl (!(v==u))) Hs H (.refl S) (shB _ _ _ _)) rfl)
end
end Ew
end
section
set_option Elab.async false
set_option linter.all false
set_option maxRecDepth 100000
namespace Ew
open PySem PySem.Spec L2
inductive Stp where
 | f (C:Addr) (g:Str)
 | x (n:Nat)
def setF (g:Str) (h:D→D):List (Str×D)→List (Str×D)
  | []=>[]
  | (k,e)::r=>if k=g then (k,h e)::r else (k,e)::setF g h r
def setX (n:Nat) (h:D→D) (ds:List D):List D:=match ds[n]? with
 | some e=>ds.set n (h e)
 | none=>ds
def sub:D→List Stp→Option D
 | d,[]=>some d
 | .obj C fs,.f C' g::π=>if C=C' then (fs.lookup g).bind (sub · π) else none
 | .lst ds,.x n::π=>ds[n]?.bind (sub · π)
 | .tup ds,.x n::π=>ds[n]?.bind (sub · π)
 | _,_::_=>none
def putAt:D→List Stp→D→D
 | _,[],d'=>d'
 | .obj C fs,.f _ g::π,d'=>.obj C (setF g (putAt · π d') fs)
 | .lst ds,.x n::π,d'=>.lst (setX n (putAt · π d') ds)
 | .tup ds,.x n::π,d'=>.tup (setX n (putAt · π d') ds)
 | d,_::_,_=>d
def At (H:Hp):D→V→List Stp→D→V→Prop
 | d,v,[],d',v'=>d'=d∧v'=v
 | .obj C fs,v,.f C' g::π,d',v'=>C=C'∧∃ a dx fvs w e,v=.ref a∧H a=some (.ins C dx fvs)∧fs.lookup g=some e∧fvs.lookup g=some w∧At H e w π d' v'
 | .lst ds,v,.x n::π,d',v'=>∃ a vs w e,v=.ref a∧H a=some (.lst vs)∧ds[n]?=some e∧vs[n]?=some w∧At H e w π d' v'
 | .tup ds,v,.x n::π,d',v'=>∃ a vs w e,v=.ref a∧H a=some (.tup vs)∧ds[n]?=some e∧vs[n]?=some w∧At H e w π d' v'
 | _,_,_::_,_,_=>False
theorem aE.part {H:Hp}:∀ {ds:List D} {vs:List V} {L:List Addr} {n:Nat} {e:D} {w:V},aE H ds vs L→ds[n]?=some e→vs[n]?=some w→
  ∃ M,Own H e w M∧(∀ b∈M,b∈L)∧∀ H' e' M',(∀ b,b∉M→H' b=H b)→Own H' e' w M'→(∀ b∈M',b∈M)→∃ L',aE H' (ds.set n e') vs L'∧∀ b∈L',b∈L
 | [],_,_,n,e,w,h,he,hw=>by simp at he
 | d::ds,_,_,0,e,w,h,he,hw=>by
  unfold aE at h
  obtain ⟨v,r,A,B,rfl,h1,h2,k,rfl⟩:=h
  simp at he hw
  subst he;subst hw
  refine ⟨A,h1,fun b hb=>List.mem_append_left _ hb,fun H' e' M' ag o s=>⟨M'++B,?_,fun b hb=>?_⟩⟩
  ·
   rw [List.set_cons_zero]
   unfold aE
   exact ⟨v,r,M',B,rfl,o,h2.agree _ fun b hb=>ag b fun z=>k b z hb,fun b hb hb'=>k b (s b hb) hb',rfl⟩
  ·
   rcases List.mem_append.mp hb with hb | hb
   ·
    exact List.mem_append_left _ (s b hb)
   ·
    exact List.mem_append_right _ hb
 | d::ds,_,_,n+1,e,w,h,he,hw=>by
  unfold aE at h
  obtain ⟨v,r,A,B,rfl,h1,h2,k,rfl⟩:=h
  simp at he hw
  obtain ⟨M,o,s,p⟩:=aE.part h2 he hw
  refine ⟨M,o,fun b hb=>List.mem_append_right _ (s b hb),fun H' e' M' ag o' s'=>?_⟩
  obtain ⟨L',q1,q2⟩:=p H' e' M' ag o' s'
  refine ⟨A++L',?_,fun b hb=>?_⟩
  ·
   rw [List.set_cons_succ]
   unfold aE
   exact ⟨v,r,A,L',rfl,h1.agree _ fun b hb=>ag b fun z=>k b hb (s b z),q1,fun b hb hb'=>k b hb (q2 b hb'),rfl⟩
  ·
   rcases List.mem_append.mp hb with hb | hb
   ·
    exact List.mem_append_left _ hb
   ·
    exact List.mem_append_right _ (q2 b hb)
theorem aQ.part {H:Hp} {g:Str}:∀ {fs:List (Str×D)} {vs:List (Str×V)} {L:List Addr} {e:D} {w:V},aQ H fs vs L→fs.lookup g=some e→vs.lookup g=some w→
    ∃ M,Own H e w M∧(∀ b∈M,b∈L)∧∀ H' (h:D→D) M',(∀ b,b∉M→H' b=H b)→Own H' (h e) w M'→(∀ b∈M',b∈M)→∃ L',aQ H' (setF g h fs) vs L'∧∀ b∈L',b∈L
  | [],_,_,e,w,h,he,hw=>by simp at he
  | (c,d)::fs,_,_,e,w,h,he,hw=>by
    unfold aQ at h
    obtain ⟨v,r,A,B,rfl,h1,h2,k,rfl⟩:=h
    rw [List.lookup_cons] at he hw
    cases hx:g==c with
    | true=>
      rw [hx] at he hw
      cases he;cases hw
      have hc:c=g:=by simpa using (eq_comm.mp (by simpa using hx))
      refine ⟨A,h1,fun b hb=>List.mem_append_left _ hb,fun H' h M' ag o s=>⟨M'++B,?_,fun b hb=>?_⟩⟩
      · unfold setF
        rw [if_pos hc]
        unfold aQ
        exact ⟨_,r,M',B,rfl,o,h2.agree _ fun b hb=>ag b fun z=>k b z hb,fun b hb hb'=>k b (s b hb) hb',rfl⟩
      · rcases List.mem_append.mp hb with hb | hb
        · exact List.mem_append_left _ (s b hb)
        · exact List.mem_append_right _ hb
    | false=>
      rw [hx] at he hw
      have hc:¬c=g:=fun z=>by subst z;simp at hx
      obtain ⟨M,o,s,p⟩:=aQ.part h2 he hw
      refine ⟨M,o,fun b hb=>List.mem_append_right _ (s b hb),fun H' h M' ag o' s'=>?_⟩
      obtain ⟨L',q1,q2⟩:=p H' h M' ag o' s'
      refine ⟨A++L',?_,fun b hb=>?_⟩
      · unfold setF
        rw [if_neg hc]
        unfold aQ
        exact ⟨v,r,A,L',rfl,h1.agree _ fun b hb=>ag b fun z=>k b hb (s b z),q1,fun b hb hb'=>k b hb (q2 b hb'),rfl⟩
      · rcases List.mem_append.mp hb with hb | hb
        · exact List.mem_append_left _ hb
        · exact List.mem_append_right _ (q2 b hb)
theorem Own.part {H:Hp} {π:List Stp}:∀ {d:D} {v:V} {L:List Addr} {d':D} {v':V},Own H d v L→At H d v π d' v'→
  ∃ M,Own H d' v' M∧(∀ b∈M,b∈L)∧∀ H' e' M',(∀ b,b∉M→H' b=H b)→Own H' e' v' M'→(∀ b∈M',b∈M)→∃ L',Own H' (putAt d π e') v L'∧∀ b∈L',b∈L:=by
 induction π with
 | nil=>
  intro d v L d' v' h a
  unfold At at a
  obtain ⟨rfl,rfl⟩:=a
  exact ⟨L,h,fun b hb=>hb,fun H' e' M' ag o s=>⟨M',by unfold putAt;exact o,s⟩⟩
 | cons stp π ih=>
  intro d v L d' v' h a
  cases stp with
  | f C g=>
   cases d with
   | obj C' fs=>
    unfold At at a
    obtain ⟨rfl,p,dx,fvs,w,e,rfl,h1,he,hw,a⟩:=a
    unfold Own at h
    obtain ⟨p',dx',fvs',M0,e1,h1',h3,h2,n1,n2,rfl⟩:=h
    cases e1
    rw [h1] at h1';cases h1'
    obtain ⟨Me,oe,se,pe⟩:=aQ.part h2 he hw
    obtain ⟨M,o,s,q⟩:=ih oe a
    refine ⟨M,o,fun b hb=>List.mem_cons_of_mem _ (List.mem_cons_of_mem _ (se b (s b hb))),fun H' e' M' ag o' s'=>?_⟩
    obtain ⟨Le,ol,sl⟩:=q H' e' M' ag o' s'
    obtain ⟨L',ol',sl'⟩:=pe H' (putAt · π e') Le (fun b hb=>ag b fun z=>hb (s b z)) ol sl
    refine ⟨p::dx::L',?_,fun b hb=>?_⟩
    ·
     unfold putAt Own
     exact ⟨p,dx,fvs,L',rfl,by rw [ag p fun z=>n1 (se _ (s _ z))];exact h1,by rw [ag dx fun z=>n2 (se _ (s _ z))];exact h3,ol',fun z=>n1 (sl' _ z),fun z=>n2 (sl' _ z),rfl⟩
    ·
     rcases List.mem_cons.mp hb with rfl | hb
     ·
      exact List.mem_cons_self
     ·
      rcases List.mem_cons.mp hb with rfl | hb
      ·
       exact List.mem_cons_of_mem _ List.mem_cons_self
      ·
       exact List.mem_cons_of_mem _ (List.mem_cons_of_mem _ (sl' _ hb))
   | _=>unfold At at a;exact a.elim
  | x n=>
   cases d with
   | lst ds=>
    unfold At at a
    obtain ⟨p,vs,w,e,rfl,h1,he,hw,a⟩:=a
    unfold Own at h
    obtain ⟨p',vs',M0,e1,h1',h2,n1,rfl⟩:=h
    cases e1
    rw [h1] at h1';cases h1'
    obtain ⟨Me,oe,se,pe⟩:=aE.part h2 he hw
    obtain ⟨M,o,s,q⟩:=ih oe a
    refine ⟨M,o,fun b hb=>List.mem_cons_of_mem _ (se b (s b hb)),fun H' e' M' ag o' s'=>?_⟩
    obtain ⟨Le,ol,sl⟩:=q H' e' M' ag o' s'
    obtain ⟨L',ol',sl'⟩:=pe H' (putAt e π e') Le (fun b hb=>ag b fun z=>hb (s b z)) ol sl
    refine ⟨p::L',?_,fun b hb=>?_⟩
    ·
     unfold putAt Own setX
     rw [he]
     exact ⟨p,vs,L',rfl,by rw [ag p fun z=>n1 (se _ (s _ z))];exact h1,ol',fun z=>n1 (sl' _ z),rfl⟩
    ·
     rcases List.mem_cons.mp hb with rfl | hb
     ·
      exact List.mem_cons_self
     ·
      exact List.mem_cons_of_mem _ (sl' _ hb)
   | tup ds=>
    unfold At at a
    obtain ⟨p,vs,w,e,rfl,h1,he,hw,a⟩:=a
    unfold Own at h
    obtain ⟨p',vs',M0,e1,h1',h2,n1,rfl⟩:=h
    cases e1
    rw [h1] at h1';cases h1'
    obtain ⟨Me,oe,se,pe⟩:=aE.part h2 he hw
    obtain ⟨M,o,s,q⟩:=ih oe a
    refine ⟨M,o,fun b hb=>List.mem_cons_of_mem _ (se b (s b hb)),fun H' e' M' ag o' s'=>?_⟩
    obtain ⟨Le,ol,sl⟩:=q H' e' M' ag o' s'
    obtain ⟨L',ol',sl'⟩:=pe H' (putAt e π e') Le (fun b hb=>ag b fun z=>hb (s b z)) ol sl
    refine ⟨p::L',?_,fun b hb=>?_⟩
    ·
     unfold putAt Own setX
     rw [he]
     exact ⟨p,vs,L',rfl,by rw [ag p fun z=>n1 (se _ (s _ z))];exact h1,ol',fun z=>n1 (sl' _ z),rfl⟩
    ·
     rcases List.mem_cons.mp hb with rfl | hb
     ·
      exact List.mem_cons_self
     ·
      exact List.mem_cons_of_mem _ (sl' _ hb)
   | _=>unfold At at a;exact a.elim
theorem aE.get {H:Hp}:∀ {ds:List D} {vs:List V} {L:List Addr} {n:Nat} {e:D},aE H ds vs L→ds[n]?=some e→∃ w,vs[n]?=some w
 | [],_,_,_,_,_,he=>by simp at he
 | d::ds,_,_,0,e,h,he=>by unfold aE at h;obtain ⟨v,r,A,B,rfl,_⟩:=h;exact ⟨v,rfl⟩
 | d::ds,_,_,n+1,e,h,he=>by
  unfold aE at h
  obtain ⟨v,r,A,B,rfl,h1,h2,_⟩:=h
  obtain ⟨w,hw⟩:=aE.get (n:=n) h2 (by simpa using he)
  exact ⟨w,by simpa using hw⟩
theorem aQ.get {H:Hp} {g:Str}:∀ {fs:List (Str×D)} {vs:List (Str×V)} {L:List Addr} {e:D},aQ H fs vs L→fs.lookup g=some e→∃ w,vs.lookup g=some w
  | [],_,_,_,_,he=>by simp at he
  | (c,d)::fs,_,_,e,h,he=>by
    unfold aQ at h
    obtain ⟨v,r,A,B,rfl,h1,h2,_⟩:=h
    rw [List.lookup_cons] at he ⊢
    cases hx:g==c with
    | true=>exact ⟨v,rfl⟩
    | false=>rw [hx] at he;exact aQ.get h2 he
theorem At.one {H:Hp} {π:List Stp}:∀ {d:D} {v:V} {L:List Addr} {d' d'':D} {v':V} {st:Stp},Own H d v L→At H d v π d' v'→sub d' [st]=some d''→∃ v'',At H d' v' [st] d'' v''∧At H d v (π++[st]) d'' v'':=by
 induction π with
 | nil=>
  intro d v L d' d'' v' st h a e
  unfold At at a
  obtain ⟨rfl,rfl⟩:=a
  cases st with
  | f C' g=>
   cases d' with
   | obj C fs=>
    unfold sub at e
    by_cases hC:C=C'
    ·
     rw [if_pos hC] at e
     cases el:fs.lookup g with
     | none=>rw [el] at e;cases e
     | some k=>
      rw [el] at e
      have:k=d'':=by simpa [sub] using e
      subst this
      unfold Own at h
      obtain ⟨p,dx,fvs,M,e1,h1,h3,h2,_⟩:=h
      obtain ⟨w,hw⟩:=aQ.get h2 el
      have:At H (.obj C fs) v' [.f C' g] k w:=by
       unfold At
       exact ⟨hC,p,dx,fvs,w,k,e1,h1,el,hw,by unfold At;exact ⟨rfl,rfl⟩⟩
      exact ⟨w,this,this⟩
    ·
     rw [if_neg hC] at e;cases e
   | _=>unfold sub at e;cases e
  | x n=>
   cases d' with
   | lst ds=>
    unfold sub at e
    cases el:ds[n]? with
    | none=>rw [el] at e;cases e
    | some k=>
     rw [el] at e
     have:k=d'':=by simpa [sub] using e
     subst this
     unfold Own at h
     obtain ⟨p,vs,M,e1,h1,h2,_⟩:=h
     obtain ⟨w,hw⟩:=aE.get h2 el
     have:At H (.lst ds) v' [.x n] k w:=by
      unfold At
      exact ⟨p,vs,w,k,e1,h1,el,hw,by unfold At;exact ⟨rfl,rfl⟩⟩
     exact ⟨w,this,this⟩
   | tup ds=>
    unfold sub at e
    cases el:ds[n]? with
    | none=>rw [el] at e;cases e
    | some k=>
     rw [el] at e
     have:k=d'':=by simpa [sub] using e
     subst this
     unfold Own at h
     obtain ⟨p,vs,M,e1,h1,h2,_⟩:=h
     obtain ⟨w,hw⟩:=aE.get h2 el
     have:At H (.tup ds) v' [.x n] k w:=by
      unfold At
      exact ⟨p,vs,w,k,e1,h1,el,hw,by unfold At;exact ⟨rfl,rfl⟩⟩
     exact ⟨w,this,this⟩
   | _=>unfold sub at e;cases e
 | cons stp π ih=>
  intro d v L d' d'' v' st h a e
  cases stp with
  | f C g=>
   cases d with
   | obj C' fs=>
    unfold At at a
    obtain ⟨rfl,p,dx,fvs,w,k,rfl,h1,he,hw,a⟩:=a
    unfold Own at h
    obtain ⟨p',dx',fvs',M0,e1,h1',h3,h2,n1,n2,rfl⟩:=h
    cases e1
    rw [h1] at h1';cases h1'
    obtain ⟨Me,oe,_⟩:=aQ.part h2 he hw
    obtain ⟨v'',a1,a2⟩:=ih oe a e
    refine ⟨v'',a1,?_⟩
    rw [List.cons_append]
    unfold At
    exact ⟨rfl,p,dx,fvs,w,k,rfl,h1,he,hw,a2⟩
   | _=>unfold At at a;exact a.elim
  | x n=>
   cases d with
   | lst ds=>
    unfold At at a
    obtain ⟨p,vs,w,k,rfl,h1,he,hw,a⟩:=a
    unfold Own at h
    obtain ⟨p',vs',M0,e1,h1',h2,n1,rfl⟩:=h
    cases e1
    rw [h1] at h1';cases h1'
    obtain ⟨Me,oe,_⟩:=aE.part h2 he hw
    obtain ⟨v'',a1,a2⟩:=ih oe a e
    refine ⟨v'',a1,?_⟩
    rw [List.cons_append]
    unfold At
    exact ⟨p,vs,w,k,rfl,h1,he,hw,a2⟩
   | tup ds=>
    unfold At at a
    obtain ⟨p,vs,w,k,rfl,h1,he,hw,a⟩:=a
    unfold Own at h
    obtain ⟨p',vs',M0,e1,h1',h2,n1,rfl⟩:=h
    cases e1
    rw [h1] at h1';cases h1'
    obtain ⟨Me,oe,_⟩:=aE.part h2 he hw
    obtain ⟨v'',a1,a2⟩:=ih oe a e
    refine ⟨v'',a1,?_⟩
    rw [List.cons_append]
    unfold At
    exact ⟨p,vs,w,k,rfl,h1,he,hw,a2⟩
   | _=>unfold At at a;exact a.elim
theorem sub_f (C C':Addr) (fs:List (Str×D)) (g:Str) (π:List Stp):sub (.obj C fs) (.f C' g::π)=if C=C' then (fs.lookup g).bind (sub · π) else none:=by rw [sub]
theorem sub_l (ds:List D) (n:Nat) (π:List Stp):sub (.lst ds) (.x n::π)=ds[n]?.bind (sub · π):=by rw [sub]
theorem sub_t (ds:List D) (n:Nat) (π:List Stp):sub (.tup ds) (.x n::π)=ds[n]?.bind (sub · π):=by rw [sub]
theorem sub_nil (d:D):sub d []=some d:=by rw [sub]
theorem jZ:∀ (π:List Stp) (d:D) (st:Stp),sub d (π++[st])=(sub d π).bind (sub · [st])
 | [],d,st=>by rw [sub_nil];rfl
 | .f C g::π,.obj C' fs,st=>by
  rw [List.cons_append,sub_f,sub_f]
  by_cases h:C'=C
  ·
   rw [if_pos h,if_pos h]
   cases fs.lookup g with
   | none=>rfl
   | some e=>exact jZ π e st
  ·
   rw [if_neg h,if_neg h];rfl
 | .x n::π,.lst ds,st=>by
  rw [List.cons_append,sub_l,sub_l]
  cases ds[n]? with
  | none=>rfl
  | some e=>exact jZ π e st
 | .x n::π,.tup ds,st=>by
  rw [List.cons_append,sub_t,sub_t]
  cases ds[n]? with
  | none=>rfl
  | some e=>exact jZ π e st
 | .f C g::π,.non,st=>rfl
 | .f C g::π,.bl _,st=>rfl
 | .f C g::π,.int _,st=>rfl
 | .f C g::π,.str _,st=>rfl
 | .f C g::π,.lst _,st=>rfl
 | .f C g::π,.tup _,st=>rfl
 | .x n::π,.non,st=>rfl
 | .x n::π,.bl _,st=>rfl
 | .x n::π,.int _,st=>rfl
 | .x n::π,.str _,st=>rfl
 | .x n::π,.obj _ _,st=>rfl
def tP (i:Nat) (π:List Stp):TE:=fun σ H Q=>∃ v d d' L,σ[i]?=some (some v)∧Own H d v L∧sub d π=some d'∧∀ v',At H d v π d' v'→Q v' H
structure DP (X:Cx) (e:Expr) (i:Nat) (π:List Stp):Prop where
 go:PE X e (tP i π)
section
variable {X:Cx} {e:Expr} {i:Nat} {π:List Stp} {pos:Pos}
theorem dp_var {x:Str} (h:PE X (.Name x pos) (eX i)):DP X (.Name x pos) i []:=.mk <| h.weak fun σ H Q ⟨v,d,d',L,hv,o,es,K⟩=>by
 have:d=d':=by simpa [sub] using es
 subst this
 exact ⟨v,hv,K v (by unfold At;exact ⟨rfl,rfl⟩)⟩
theorem dp_fld {C:Addr} {g:Str} (h:DP X e i π) (hk:Cls X.K C∧NoAttr X.K C g) (hb:attributeBase e g X.env (eval e X.env)=eval e X.env:=by rfl):DP X (.Attribute e g pos) i (π++[.f C g]):=.mk <|
 (pe_fld h.go hb).weak fun σ H Q ⟨v,d,d'',L,hv,o,es,K⟩=>by
  rw [jZ] at es
  cases e1:sub d π with
  | none=>rw [e1] at es;cases es
  | some d'=>
   rw [e1] at es
   refine ⟨v,d,d',L,hv,o,e1,fun v' a=>?_⟩
   obtain ⟨v'',a1,a2⟩:=At.one o a es
   match d',a1 with
   | .obj C' fs,a1=>
    unfold At at a1
    obtain ⟨rfl,p,dx,fvs,w,k,rfl,h1,he,hw,a1⟩:=a1
    unfold At at a1
    obtain ⟨rfl,rfl⟩:=a1
    exact ⟨p,C',dx,fvs,v'',rfl,h1,hk.1,hk.2,hw,K v'' a2⟩
end
def smut (i:Nat) (π:List Stp) (op:List D→Option (List D)):FS:=fun δ=>match δ[i]? with
 | some (some (.nw d))=>(sub d π).bind fun d'=>match d' with
  | .lst ds=>(op ds).bind fun ds'=>some (.nx (δ.set i (some (.nw (putAt d π (.lst ds'))))))
  | _=>none
 | _=>none
theorem aE.take {H:Hp}:∀ {ds:List D} {vs:List V} {L:List Addr} (n:Nat),aE H ds vs L→∃ L',aE H (ds.take n) (vs.take n) L'∧∀ b∈L',b∈L
 | [],_,_,n,h=>by unfold aE at h;obtain ⟨rfl,rfl⟩:=h;simp;exact ⟨[],by unfold aE;exact ⟨rfl,rfl⟩,fun b hb=>by cases hb⟩
 | d::ds,_,_,0,h=>⟨[],by simp;unfold aE;exact ⟨rfl,rfl⟩,fun b hb=>by cases hb⟩
 | d::ds,_,_,n+1,h=>by
  unfold aE at h
  obtain ⟨v,r,A,B,rfl,h1,h2,k,rfl⟩:=h
  obtain ⟨L',q1,q2⟩:=aE.take n h2
  refine ⟨A++L',?_,fun b hb=>?_⟩
  ·
   simp only [List.take_succ_cons]
   unfold aE
   exact ⟨v,_,A,L',rfl,h1,q1,fun b hb hb'=>k b hb (q2 b hb'),rfl⟩
  ·
   rcases List.mem_append.mp hb with hb | hb
   ·
    exact List.mem_append_left _ hb
   ·
    exact List.mem_append_right _ (q2 b hb)
theorem StR.mut {H0 Hs0 Hs H:Hp} {δ:DSt} {σ:St} {i:Nat} {π:List Stp} {d:D} {ds:List D} {v:V} {l:V} (W:Wd H0 Hs0 Hs H) (S:StR H0 Hs H δ σ) (q:δ[i]?=some (some (.nw d))) (hv:σ[i]?=some (some v)) (a:At H d v π (.lst ds) l) :
  ∃ p vs M,l=.ref p∧H p=some (.lst vs)∧aE H ds vs M∧∀ ds' vs' M',aE H ds' vs' M'→(∀ b∈M',b∈M)→Wd H0 Hs0 Hs (L2.upd H p (.lst vs'))∧StR H0 Hs (L2.upd H p (.lst vs')) (δ.set i (some (.nw (putAt d π (.lst ds'))))) σ:=by
 obtain ⟨L,O,nL⟩:=S.rep q hv
 obtain ⟨M1,o1,s1,pt⟩:=Own.part O a
 have o1':=o1
 unfold Own at o1
 obtain ⟨p,vs,M,e1,h1,h2,n,rfl⟩:=o1
 refine ⟨p,vs,M,e1,h1,h2,fun ds' vs' M' o' sM=>?_⟩
 have nM':p∉M':=fun z=>n (sM _ z)
 obtain ⟨L',ol,sl⟩:=pt (L2.upd H p (.lst vs')) (.lst ds') (p::M') (fun b hb=>aB fun z=>hb (by rw [z];exact List.mem_cons_self)) (by
  unfold Own
  exact ⟨p,vs',M',e1,aA,o'.agree _ fun b hb=>aB fun z=>nM' (by rw [←z];exact hb),nM',rfl⟩) (fun b hb=>by
  rcases List.mem_cons.mp hb with rfl | hb
  ·
   exact List.mem_cons_self
  ·
   exact List.mem_cons_of_mem _ (sM b hb))
 have pL:p∈L:=s1 p List.mem_cons_self
 have:=S.upG (Hs':=Hs) (H':=L2.upd H p (.lst vs')) (e':=.nw (putAt d π (.lst ds'))) (v':=v) W q hv (fun b o nb eb=>by
   have:b≠p:=fun z=>nb ⟨L,O,by rw [z];exact pL⟩
   rw [aB this];exact eb) (fun b o eb=>by rw [aB (aO eb (nL p pL))];exact W.sub _ _ eb) (.refl _) (fun _ _ e=>.inl e) ⟨L',ol,fun b hb=>nL b (sl b hb)⟩
   (fun b ⟨L'',f,hb⟩=>.inl ⟨L,O,by rw [Own.uniq _ f ol] at hb;exact sl b hb⟩)
 rw [set_same hv] at this
 exact this
section
variable {X:Cx} {e o:Expr} {i:Nat} {π:List Stp} {pos apos cpos:Pos}
def lI (ds:List D):Option (List D):=if ds=[] then none else some ds.dropLast
theorem ds_mpop (h:DP X o i π) (hbase:attributeBase o "pop" X.env (eval o X.env)=eval o X.env:=by rfl) (hline:(apos.endLine==cpos.line)=true:=by rfl)
  (hsw:swapsWith (.Call (.Attribute o "pop" apos) [] [] cpos) none pos.line X.env=pure false:=by rfl):DS X (.Expr (.Call (.Attribute o "pop" apos) [] [] cpos) pos) (smut i π lI):=.mk fun H0 Hs0=>
 (g9 (pe_bm0 PySem.F.plainAttrs_list PySem.F.slot_list_pop PySem.F.type_list_pop mt_pop h.go hbase hline) hsw).weak fun D σ H ⟨Hs,δ,res,W,S,e,P⟩=>by
  unfold smut at e
  cases q:δ[i]? with
  | none=>rw [q] at e;cases e
  | some z=>
   rw [q] at e
   match z,e with
   | some (.nw d),e=>
    obtain ⟨v,hv,L,O,nL⟩:=S.ent i _ q
    cases es:sub d π with
    | none=>simp only [es] at e;cases e
    | some d'=>
     simp only [es,Option.bind] at e
     match d',e,es with
     | .lst ds,e,es=>
      refine ⟨v,d,_,L,hv,O,es,fun v' a=>?_⟩
      obtain ⟨p,vs,M,rfl,h1,h2,K⟩:=S.mut W q hv a
      refine ⟨.inl ⟨rfl,vs,.of h1⟩,?_⟩
      by_cases hd:ds=[]
      ·
       simp only [lI,if_pos hd] at e;cases e
      ·
       simp only [lI,if_neg hd] at e
       cases e
       have hlen:=h2.length
       have hpos:0<vs.length:=by rw [hlen];exact List.length_pos_iff.mpr hd
       have hy:vs[vs.length-1]?=some vs[vs.length-1]:=List.getElem?_eq_getElem (by omega)
       obtain ⟨M',o',sM⟩:=h2.take (ds.length-1)
       have ed:ds.take (ds.length-1)=ds.dropLast:=(List.dropLast_eq_take ..).symm
       have ev:vs.take (ds.length-1)=vs.dropLast:=by rw [←hlen];exact (List.dropLast_eq_take ..).symm
       rw [ed,ev] at o'
       obtain ⟨W1,S1⟩:=K _ _ _ o' sM
       exact ⟨p,vs,_,rfl,rfl,h1,hy,P σ Hs _ W1 S1⟩
def io (ds:List D):Option (List D):=some []
theorem ds_mclear (h:DP X o i π) (hbase:attributeBase o "clear" X.env (eval o X.env)=eval o X.env:=by rfl) (hline:(apos.endLine==cpos.line)=true:=by rfl)
  (hsw:swapsWith (.Call (.Attribute o "clear" apos) [] [] cpos) none pos.line X.env=pure false:=by rfl):DS X (.Expr (.Call (.Attribute o "clear" apos) [] [] cpos) pos) (smut i π io):=.mk fun H0 Hs0=>
 (g9 (pe_bm0 PySem.F.plainAttrs_list PySem.F.slot_list_clear PySem.F.type_list_clear mt_clear h.go hbase hline) hsw).weak fun D σ H ⟨Hs,δ,res,W,S,e,P⟩=>by
  unfold smut at e
  cases q:δ[i]? with
  | none=>rw [q] at e;cases e
  | some z=>
   rw [q] at e
   match z,e with
   | some (.nw d),e=>
    obtain ⟨v,hv,L,O,nL⟩:=S.ent i _ q
    cases es:sub d π with
    | none=>simp only [es] at e;cases e
    | some d'=>
     simp only [es,Option.bind] at e
     match d',e,es with
     | .lst ds,e,es=>
      refine ⟨v,d,_,L,hv,O,es,fun v' a=>?_⟩
      obtain ⟨p,vs,M,rfl,h1,h2,K⟩:=S.mut W q hv a
      refine ⟨.inl ⟨rfl,vs,.of h1⟩,?_⟩
      simp only [io] at e
      cases e
      obtain ⟨W1,S1⟩:=K [] [] [] (by unfold aE;exact ⟨rfl,rfl⟩) (fun b hb=>by cases hb)
      exact ⟨p,vs,rfl,rfl,h1,P σ Hs _ W1 S1⟩
end
end Ew
end
section
set_option Elab.async false
set_option linter.all false
set_option maxRecDepth 100000
namespace Ew
open PySem PySem.Spec L2
section
variable {X:Cx} {e:Expr} {es:List Expr} {fr:DSt→Option (List R)} {x:Str} {p pos:Pos} {id T:String}
theorem dn_u {qual:Str} {st:Stmt} {ps:List Str} {f:Addr} {fd:FuncData} {k n:Nat} {m:List D→Option D} (d:Df X.K X.mg x qual st ps f fd) (G:dM X.prog X.w X.K X.mg X.base CX0 k f fd ps (spN n m)) (hr:bq k X.A) (ha:DA X (e::es) fr)
 (hg:Gl X x:=by rfl) (hdb:(x==("__debug__" : Str))=false:=by decide) (he:starEach (e::es) X.env=(false,eval e X.env)::starEach es X.env:=by exact bF rfl) (hpl:(backTo pos (starEach es X.env)).any (·.1)=false:=by rfl) :
 DN X (.Call (.Name x p) (e::es) [] pos) (cP n m fr):=.mk <| (lZ (E:=E0) G hr hg d.mgx d.fn.kp d.bd .nil lC ha.go hdb he hpl).weak fun _ _ _=>tN_call
theorem dn_mk {C f:Addr} {fd:FuncData} {ps:List Str} {k n:Nat} {m:List D→Option (List (Str×D))} (M:Mk X.K C f) (G:dM X.prog X.w X.K X.mg X.base CX0 k f fd ps (spIN C n m)) (hb:Binds X.K fd ps []) (hm:X.mg x=some (.ref C)) (hr:bq (k+1) X.A) (ha:DA X (e::es) fr)
 (hg:Gl X x:=by rfl) (hdb:(x==("__debug__" : Str))=false:=by decide) (he:starEach (e::es) X.env=(false,eval e X.env)::starEach es X.env:=by exact bF rfl) (hpl:(backTo pos (starEach es X.env)).any (·.1)=false:=by rfl) :
 DN X (.Call (.Name x p) (e::es) [] pos) (f9 C n m fr):=.mk <| (pe_make (E:=E0) M G hr hg hm hb .nil lC ha.go hdb he hpl).weak fun _ _ _=>tN_make
end
section
variable {δ:DSt} {f:FE} {g h:FN} {gs:DSt→Option (List D)} {fr:DSt→Option (List R)} {t:DSt→Option Bool} {F G:FS}
@[simp] theorem nflat_e:dC f δ=(f δ).bind R.toN:=rfl
@[simp] theorem toN_sh (d:D):(R.sh d).toN=if d.flat=true then some d else none:=rfl
@[simp] theorem toN_fr (ds:List D):(R.fr ds).toN=if ds.all D.flat=true then some (.lst ds) else none:=rfl
@[simp] theorem dnw_e:dnw g δ=(g δ).map .sh:=rfl
@[simp] theorem nanil_e:ko δ=some []:=rfl
@[simp] theorem nacons_e:da g gs δ=(g δ).bind fun d=>(gs δ).bind fun ds=>some (d::ds):=rfl
@[simp] theorem ntup_e:ntup gs δ=(gs δ).bind fun ds=>if ds.length≤big then some (.tup ds) else none:=rfl
@[simp] theorem nlst_e:nlst gs δ=(gs δ).bind fun ds=>if ds.length≤big then some (.lst ds) else none:=rfl
@[simp] theorem nif_e:nif t g h δ=(t δ).bind fun k=>if k=true then g δ else h δ:=rfl
@[simp] theorem mE (n:Nat) (m:List D→Option D):cP n m fr δ=(fr δ).bind fun rs=>if rs.length=n∧cW rs=true then m (rs.map R.view) else none:=rfl
@[simp] theorem j0 (C:Addr) (n:Nat) (m:List D→Option (List (Str×D))):f9 C n m fr δ=(fr δ).bind fun rs=>if rs.length=n∧cW rs=true then (m (rs.map R.view)).map (.obj C) else none:=rfl
@[simp] theorem ssetN_e (i:Nat):gC i g δ=(g δ).bind fun d=>some (.nx (δ.set i (some (.nw d)))):=rfl
@[simp] theorem sretN_e:il g δ=(g δ).bind fun d=>some (.rn d):=rfl
@[simp] theorem ncomp_e (fi:DSt→Option (List D)) (g:GD) (c:DSt→Option Bool) (fe:FN) (m:Nat) (ix:List Nat):kq fi g c fe m ix δ=(fi δ).bind fun items=>if items.length≤big then (cI g c fe (dIn m ix δ) items).map .lst else none:=rfl
@[simp] theorem runN_e (k:Nat) (F:FS) (ds:List D):runN k F ds=match F (ds.map (fun d=>some (.sh d))++List.replicate (k-ds.length) none) with
 | some (.rt r)=>r.toN
 | some (.nx _)=>some .non
 | some (.rn d)=>some d
 | _=>none:=rfl
@[simp] theorem sfldN_e (C C' a:Addr) (f:Str) (fs:List (Str×D)) (r:DSt):kr C f g (some (.on a (.obj C' fs))::r)=if C'=C∧fs.length<1000∧fs.lookup f=none then (g (some (.on a (.obj C' fs))::r)).bind fun d=>some (.nx (some (.on a (.obj C (fs++[(f,d)])))::r)) else none:=rfl
@[simp] theorem sifB_e (i:Nat):eR i t F G δ=(t (frz i δ)).bind fun b=>if b=true then F δ else G δ:=rfl
theorem nP (g:GD) (c:DSt→Option Bool) (fe:FN) (δ:DSt) {α:Type} (enc:α→D) (p:α→Bool) (out:α→D) (xs:List α)
  (h:∀ x∈xs,∃ δ1,g (enc x) δ=some δ1∧c δ1=some (p x)∧(p x=true→fe δ1=some (out x))) :
  cI g c fe δ (xs.map enc)=some ((xs.filter p).map out):=by
 induction xs with
 | nil=>rfl
 | cons x xs ih=>
  obtain ⟨δ1,h1,h2,h3⟩:=h x List.mem_cons_self
  have ih:=ih fun y hy=>h y (List.mem_cons_of_mem _ hy)
  rw [List.map_cons]
  unfold cI
  rw [h1]
  show ((c δ1).bind fun b=>if b=true then (fe δ1).bind fun r1=>(cI g c fe δ (xs.map enc)).bind fun t=>some (r1::t) else cI g c fe δ (xs.map enc))=_
  rw [h2]
  show (if p x=true then (fe δ1).bind fun r1=>(cI g c fe δ (xs.map enc)).bind fun t=>some (r1::t) else cI g c fe δ (xs.map enc))=_
  by_cases hp:p x=true
  ·
   rw [if_pos hp,h3 hp,ih]
   simp [hp,List.filter_cons]
  ·
   rw [if_neg hp,ih]
   simp [hp,List.filter_cons]
end
end Ew
end
section
open PyProof.Rows PySem PySem.Spec
set_option maxRecDepth 100000
set_option linter.all false
set_option Elab.async false
namespace Ew
theorem zip3_type (a b c:Value):checkTypeCall "zip" { pos:=[a,b,c] }=pure ():=by rfl
theorem zip3_new (a b c:Value):checkBuiltinCall "zip.__new__" { pos:=[Value.type "zip",a,b,c] }=pure ():=by with_unfolding_all rfl
abbrev jv (f0:Value) (f1:Bool) (TI TO:Addr):Obj:={ cls:=Value.type "zip",data:=Data.fields #[f0,Value.bool f1,Value.bool false,Value.ref TI,Value.ref TO] }
abbrev db (vs:List Value):Obj:={ cls:=Value.type "tuple",data:=Data.seq vs.toArray }
abbrev itO (l:Addr) (i:Nat):Obj:={ cls:=Value.type "list_iterator",data:=Data.fields #[Value.ref l,Value.int i 0] }
abbrev j4 (h:Heap) (l1 l2 l3:Addr):Heap:=(((((h.push (itO l1 0)).push (itO l2 0)).push (itO l3 0)).push (db [.ref h.objs.size,.ref (h.objs.size+1),.ref (h.objs.size+2)])).push (db [.none,.none,.none])).push (jv .none false (h.objs.size+3) (h.objs.size+4))
theorem o3 (l1 l2 l3:Addr) (xs ys zs:Array Value) :
  Meets (Builtin.«zip.__new__» { pos:=[Value.type "zip",Value.ref l1,Value.ref l2,Value.ref l3] }) fun A R s=>
   s.heap.IsList l1 xs∧s.heap.IsList l2 ys∧s.heap.IsList l3 zs∧
    R (Except.ok (Flow.ret (Value.ref (s.heap.objs.size+5)))) { s with heap:=j4 s.heap l1 l2 l3 }:=by
 refine Meets.of_wp fun prog w A R s ⟨h1,h2,h3,hR⟩=>?_
 unfold Builtin.«zip.__new__»
 refine wpAny_bind ?_
 unfold Builtin.SmallTypes.newClass
 refine wpAny_bind (wpAny_of_eq (a:=true) rfl ?_)
 refine wpAny_ite_false rfl ?_
 refine wpAny_bind (wpAny_of_eq sub_zip ?_)
 refine wpAny_ite_false rfl ?_
 refine wpAny_pure ?_
 refine wpAny_ite_false rfl ?_
 refine wpAny_bind ?_
 unfold Builtin.SmallTypes.iterAll
 simp only [List.forIn_cons,List.forIn_nil]
 refine wpAny_bind (wpAny_bind (wpAny_bind (wpAny_holding (wpAny_pyIter_list h1 (wpAny_pure ?_)))))
 refine (wpAny_bind (wpAny_bind (wpAny_holding (wpAny_pyIter_list (h2.push _) (wpAny_pure ?_)))))
 refine (wpAny_bind (wpAny_bind (wpAny_holding (wpAny_pyIter_list ((h3.push _).push _) (wpAny_pure ?_)))))
 refine wpAny_pure (wpAny_pure ?_)
 refine wpAny_bind (wpAny_newTuple ?_ (by simp [PySem.sizeLine_eq]))
 refine wpAny_bind (wpAny_newTuple ?_ (by simp [PySem.sizeLine_eq]))
 refine wpAny_bind ?_
 unfold Builtin.SmallTypes.newRecord newObj
 refine wpAny_ite_false (decide_eq_false (by rw [PySem.sizeLine_eq];simp [Builtin.SmallTypes.ownedTupleFields])) ?_
 refine wpAny_bind (wpAny_alloc ?_)
 refine wpAny_pure (wpAny_pure ⟨_,rfl,?_⟩)
 simp only [Heap.size_push]
 exact hR
theorem call_zip3 {prog:Program} {w:World} {A:Around} {E:Value→Shared→Prop} {s:Shared} {l1 l2 l3:Addr} {xs ys zs:Array Value} {Q:Value→Shared→Prop}
  (h1:s.heap.IsList l1 xs) (h2:s.heap.IsList l2 ys) (h3:s.heap.IsList l3 zs)
  (k:Q (Value.ref (s.heap.objs.size+5)) { s with heap:=j4 s.heap l1 l2 l3 }) :
  wpAny (model prog w) A (call (Value.type "zip") [Value.ref l1,Value.ref l2,Value.ref l3]) Q E s:=by
 refine callType_new F.called_zip (by decide) (zip3_type _ _ _) (zip3_new _ _ _) (fun obj=>by first | exact PySem.F.args_object_init_4 _ _ _ _ | trivial) F.entry_zip_new (o3 l1 l2 l3 xs ys zs) ⟨h1,h2,h3,?_⟩
 refine ⟨?_,k⟩
 have:=Heap.get?_push_size ((((((s.heap.push (itO l1 0)).push (itO l2 0)).push (itO l3 0)).push (db [.ref s.heap.objs.size,.ref (s.heap.objs.size+1),.ref (s.heap.objs.size+2)])).push (db [.none,.none,.none]))) (o:=jv .none false (s.heap.objs.size+3) (s.heap.objs.size+4)) rfl
 exact ⟨_,by simpa [Heap.size_push] using this,rfl⟩
end Ew
open PyProof.Rows PySem PySem.Spec
set_option maxRecDepth 100000
set_option linter.all false
set_option Elab.async false
namespace Ew
structure Zs (h:Heap) (N l1 l2 l3 k:Nat) (f0:Value) (f1:Bool):Prop where
 z:h.get? (N+5)=some (jv f0 f1 (N+3) (N+4))
 ti:h.get? (N+3)=some (db [.ref N,.ref (N+1),.ref (N+2)])
 to:∃ a b c,h.get? (N+4)=some (db [a,b,c])
 i1:h.IsListIter N l1 k
 i2:h.IsListIter (N+1) l2 k
 i3:h.IsListIter (N+2) l3 k
def Off (N:Nat) (c:Nat):Prop:=c<N∨N+5<c
theorem nQ {M:Model} {A:Around} {E:Value→Shared→Prop} {s:Shared} {a:Addr} {Q:Option Obj→Shared→Prop} (h:Q (s.heap.get? a) s):wpAny M A (loadIfAlive a) Q E s:=by
 intro Γ p hΓ
 unfold loadIfAlive
 rw [Sem.wp_loadIfAlive]
 exact wpAny_pure (M:=M) (A:=A) (E:=E) h Γ p hΓ
theorem thn3 {α:Type} {t:Sem α} {Q Q':α→Shared→Prop} {M:Model} {A:Around} {E:Value→Shared→Prop} {s:Shared} (h:wpAny M A t Q E s) (hQ:∀ a s,Q a s→Q' a s):wpAny M A t Q' E s:=wpAny_mono h hQ fun _ _ x=>x
theorem next3_nf {prog:Program} {w:World} {A:Around} {E:Value→Shared→Prop} {s:Shared} {N l1 l2 l3 k:Nat} {a:Addr} {o:Obj} {f1:Bool} {xs ys zs:Array Value} {x y v:Value} {Q:Value→Shared→Prop}
  (Z:Zs s.heap N l1 l2 l3 k (rawInt a) f1) (ha:s.heap.get? a=some o) (h1:s.heap.IsList l1 xs) (h2:s.heap.IsList l2 ys) (h3:s.heap.IsList l3 zs) (b1:l1<N) (b2:l2<N) (b3:l3<N)
  (hx:xs[k]?=some x) (hy:ys[k]?=some y) (hv:zs[k]?=some v)
  (K:∀ h':Heap,Zs h' N l1 l2 l3 (k+1) (rawInt a) true→h'.get? s.heap.objs.size=some (db [x,y,v])→h'.objs.size=s.heap.objs.size+1→(∀ (c:Nat) (o:Obj),Off N c→s.heap.get? c=some o→h'.get? c=some o)→Q (Value.ref s.heap.objs.size) { s with heap:=h' }) :
  wpAny (model prog w) A (Builtin.«zip.__next__» { pos:=[Value.ref (N+5)] }) (fun fin s'=>∃ v,fin=Fin.done (Flow.ret v)∧Q v s') E s:=by
 unfold Builtin.«zip.__next__»
 refine wpAny_bind (wpAny_of_eq (a:=(Value.ref (N+5),[])) rfl ?_)
 refine wpAny_bind (wpAny_field (x:=Value.bool false) Z.z rfl rfl ?_)
 refine wpAny_bind (wpAny_field (x:=Value.ref (N+3)) Z.z rfl rfl ?_)
 refine wpAny_bind (wpAny_seqItems Z.ti rfl ?_)
 refine wpAny_ite_false rfl ?_
 refine wpAny_bind ?_
 unfold Builtin.SmallTypes.ownedTupleIsFree
 refine wpAny_bind (wpAny_field (x:=rawInt a) Z.z rfl rfl ?_)
 refine wpAny_bind (nQ ?_)
 rw [show ((a:Int).toNat)=a from rfl,ha]
 refine wpAny_ite_false rfl ?_
 refine wpAny_bind (wpAny_field (x:=Value.bool f1) Z.z rfl rfl ?_)
 refine thn3 (Q:=fun b s'=>b=false∧∃ h0:Heap,s'={ s with heap:=h0 }∧Zs h0 N l1 l2 l3 k (rawInt a) true∧h0.objs.size=s.heap.objs.size∧∀ c,c≠N+5→h0.get? c=s.heap.get? c) ?_ ?_
 ·
  cases f1 with
  | true=>exact wpAny_ite_false rfl (wpAny_pure ⟨rfl,s.heap,rfl,Z,rfl,fun _ _=>rfl⟩)
  | false=>
   refine wpAny_ite_true rfl (wpAny_bind (wpAny_setField Z.z rfl (by simp) (wpAny_pure ⟨rfl,_,rfl,?_,?_,?_⟩)))
   ·
    have hk:∀ c,c≠N+5→(s.heap.update (N+5) (Obj.mapFields fun x_1=>x_1.setIfInBounds 1 (Value.bool true))).get? c=s.heap.get? c:=fun c hc=>Heap.get?_update_other _ _ (Ne.symm hc)
    refine ⟨Heap.get?_update_self _ Z.z rfl,?_,?_,Z.i1.at fun o e=>?_,Z.i2.at fun o e=>?_,Z.i3.at fun o e=>?_⟩
    ·
     rw [hk _ (by omega)];exact Z.ti
    ·
     obtain ⟨p,q,r,e⟩:=Z.to
     exact ⟨p,q,r,by rw [hk _ (by omega)];exact e⟩
    ·
     rw [hk _ (by omega)];exact e
    ·
     rw [hk _ (by omega)];exact e
    ·
     rw [hk _ (by omega)];exact e
   ·
    exact Heap.size_update _ _ _
   ·
    exact fun c hc=>Heap.get?_update_other _ _ (Ne.symm hc)
 ·
  rintro b s0 ⟨rfl,h0,rfl,Z0,hs0,hk0⟩
  refine wpAny_ite_false rfl ?_
  simp only [List.forIn_toArray,List.forIn_cons,List.forIn_nil]
  refine wpAny_bind (wpAny_bind (wpAny_bind (wpAny_holding (wpAny_ite_false rfl (wpAny_bind (wpAny_nextOf_list_item Z0.i1 (h1.at fun o e=>by rw [hk0 _ (by omega)];exact e) hx fun g1 j1 sb1=>wpAny_pure ?_))))))
  refine wpAny_pure ?_
  have sb1:g1.objs.size=h0.objs.size∧∀ c:Nat,c≠N→g1.get? c=h0.get? c:=sb1
  have e1:∀ c:Nat,c≠N+5→c≠N→g1.get? c=s.heap.get? c:=fun c c1 c2=>by rw [sb1.2 c c2];exact hk0 c c1
  refine wpAny_bind (wpAny_bind (wpAny_holding (wpAny_ite_false rfl (wpAny_bind (wpAny_nextOf_list_item (Z0.i2.at fun o e=>by rw [sb1.2 _ (by omega)];exact e) (h2.at fun o e=>by rw [e1 _ (by omega) (by omega)];exact e) hy fun g2 j2 sb2=>wpAny_pure (wpAny_pure ?_))))))
  have sb2:g2.objs.size=g1.objs.size∧∀ c:Nat,c≠N+1→g2.get? c=g1.get? c:=sb2
  have e2:∀ c:Nat,c≠N+5→c≠N→c≠N+1→g2.get? c=s.heap.get? c:=fun c c1 c2 c3=>by rw [sb2.2 c c3];exact e1 c c1 c2
  refine wpAny_bind (wpAny_bind (wpAny_holding (wpAny_ite_false rfl (wpAny_bind (wpAny_nextOf_list_item (Z0.i3.at fun o e=>by rw [sb2.2 _ (by omega)];rw [sb1.2 _ (by omega)];exact e) (h3.at fun o e=>by rw [e2 _ (by omega) (by omega) (by omega)];exact e) hv fun g3 j3 sb3=>wpAny_pure (wpAny_pure ?_))))))
  have sb3:g3.objs.size=g2.objs.size∧∀ c:Nat,c≠N+2→g3.get? c=g2.get? c:=sb3
  have e3:∀ c:Nat,c≠N+5→c≠N→c≠N+1→c≠N+2→g3.get? c=s.heap.get? c:=fun c c1 c2 c3 c4=>by rw [sb3.2 c c4];exact e2 c c1 c2 c3
  refine wpAny_pure ?_
  have hz:g3.objs.size=s.heap.objs.size:=by rw [sb3.1,sb2.1,sb1.1];exact hs0
  refine wpAny_bind (wpAny_newTuple ?_ (by simp [PySem.sizeLine_eq]))
  refine wpAny_pure ⟨_,rfl,?_⟩
  rw [hz]
  have hp:∀ c o,g3.get? c=some o→(g3.push (db [x,y,v])).get? c=some o:=fun c o e=>Heap.get?_push_of_some _ e
  refine K _ ⟨?_,?_,?_,?_,?_,?_⟩ ?_ ?_ ?_
  ·
   refine hp _ _ ?_
   rw [sb3.2 _ (by omega),sb2.2 _ (by omega),sb1.2 _ (by omega)];exact Z0.z
  ·
   refine hp _ _ ?_
   rw [e3 _ (by omega) (by omega) (by omega) (by omega)];exact Z.ti
  ·
   obtain ⟨p,q,r,e⟩:=Z.to
   refine ⟨p,q,r,hp _ _ ?_⟩
   rw [e3 _ (by omega) (by omega) (by omega) (by omega)];exact e
  ·
   refine j1.at fun o e=>hp _ _ ?_
   rw [sb3.2 _ (by omega),sb2.2 _ (by omega)];exact e
  ·
   refine j2.at fun o e=>hp _ _ ?_
   rw [sb3.2 _ (by omega)];exact e
  ·
   exact j3.at fun o e=>hp _ _ e
  ·
   rw [←hz];exact Heap.get?_push_size _ rfl
  ·
   rw [Heap.size_push,hz]
  ·
   intro c o hc e
   refine hp _ _ ?_
   unfold Off at hc
   rw [e3 c (by omega) (by omega) (by omega) (by omega)];exact e
end Ew
open PyProof.Rows PySem PySem.Spec
set_option maxRecDepth 100000
set_option linter.all false
set_option Elab.async false
namespace Ew
theorem aR {h:Heap} {a b:Nat} {f:Obj→Obj} (hc:b≠a):(h.update a f).get? b=h.get? b:=Heap.get?_update_other _ _ (Ne.symm hc)
theorem next3_fr {prog:Program} {w:World} {A:Around} {E:Value→Shared→Prop} {s:Shared} {N l1 l2 l3 k:Nat} {xs ys zs:Array Value} {x y v:Value} {Q:Value→Shared→Prop}
  (Z:Zs s.heap N l1 l2 l3 k .none false) (h1:s.heap.IsList l1 xs) (h2:s.heap.IsList l2 ys) (h3:s.heap.IsList l3 zs) (b1:l1<N) (b2:l2<N) (b3:l3<N)
  (hx:xs[k]?=some x) (hy:ys[k]?=some y) (hv:zs[k]?=some v)
  (K:∀ h':Heap,Zs h' N l1 l2 l3 (k+1) (rawInt s.heap.objs.size) false→h'.get? s.heap.objs.size=some (db [x,y,v])→h'.objs.size=s.heap.objs.size+1→(∀ (c:Nat) (o:Obj),Off N c→s.heap.get? c=some o→h'.get? c=some o)→Q (Value.ref s.heap.objs.size) { s with heap:=h' }) :
  wpAny (model prog w) A (Builtin.«zip.__next__» { pos:=[Value.ref (N+5)] }) (fun fin s'=>∃ v,fin=Fin.done (Flow.ret v)∧Q v s') E s:=by
 have hlt:N+5<s.heap.objs.size:=Heap.lt_size Z.z
 unfold Builtin.«zip.__next__»
 refine wpAny_bind (wpAny_of_eq (a:=(Value.ref (N+5),[])) rfl ?_)
 refine wpAny_bind (wpAny_field (x:=Value.bool false) Z.z rfl rfl ?_)
 refine wpAny_bind (wpAny_field (x:=Value.ref (N+3)) Z.z rfl rfl ?_)
 refine wpAny_bind (wpAny_seqItems Z.ti rfl ?_)
 refine wpAny_ite_false rfl ?_
 refine wpAny_bind ?_
 unfold Builtin.SmallTypes.ownedTupleIsFree
 refine wpAny_bind (wpAny_field (x:=Value.none) Z.z rfl rfl (wpAny_pure ?_))
 refine wpAny_ite_true rfl ?_
 refine wpAny_bind (wpAny_rule ?_)
 refine wpAny_bind (wpAny_field (x:=Value.ref (N+4)) Z.z rfl rfl ?_)
 refine wpAny_bind (wpAny_setField Z.z rfl (by simp) ?_)
 obtain ⟨p,q,r,hto⟩:=Z.to
 generalize hg0:s.heap.update (N+5) (Obj.mapFields fun x_1=>x_1.setIfInBounds 0 Value.ellipsis)=g0
 have k0:∀ c:Nat,c≠N+5→g0.get? c=s.heap.get? c:=fun c hc=>by rw [←hg0];exact aR hc
 have z0:g0.get? (N+5)=some (jv Value.ellipsis false (N+3) (N+4)):=by rw [←hg0];exact Heap.get?_update_self _ Z.z rfl
 have s0:g0.objs.size=s.heap.objs.size:=by rw [←hg0];exact Heap.size_update _ _ _
 simp only [List.zipIdx_cons,List.zipIdx_nil,List.forIn_cons,List.forIn_nil]
 refine wpAny_bind (wpAny_bind (wpAny_bind (wpAny_onRaise (wpAny_ite_false rfl (wpAny_bind (wpAny_nextOf_list_item (Z.i1.at fun o e=>by rw [k0 _ (by omega)];exact e) (h1.at fun o e=>by rw [k0 _ (by omega)];exact e) hx fun g1 j1 sb1=>wpAny_pure ?_))))))
 have sb1:g1.objs.size=g0.objs.size∧∀ c:Nat,c≠N→g1.get? c=g0.get? c:=sb1
 have t1:g1.get? (N+4)=some (db [p,q,r]):=by rw [sb1.2 _ (by omega),k0 _ (by omega)];exact hto
 refine wpAny_bind (wpAny_seqItems t1 rfl (wpAny_bind (wpAny_updateSeq t1 rfl ?_ (by simp [PySem.sizeLine_eq]) (by simp [PySem.sizeLine_eq]))))
 refine wpAny_bind (wpAny_letGo (wpAny_pure ?_))
 generalize hg2:g1.update (N+4) _=g2
 have k2:∀ c:Nat,c≠N+5→c≠N→c≠N+4→g2.get? c=s.heap.get? c:=fun c c1 c2 c3=>by rw [←hg2,aR c3,sb1.2 c c2];exact k0 c c1
 have z2:g2.get? (N+5)=some (jv Value.ellipsis false (N+3) (N+4)):=by rw [←hg2,aR (by omega),sb1.2 _ (by omega)];exact z0
 have t2:g2.get? (N+4)=some (db [x,q,r]):=by rw [←hg2];exact Heap.get?_update_self _ t1 rfl
 have i2:g2.IsListIter N l1 (k+1):=j1.at fun o e=>by rw [←hg2,aR (by omega)];exact e
 have s2:g2.objs.size=s.heap.objs.size:=by rw [←hg2,Heap.size_update,sb1.1,s0]
 refine wpAny_bind (wpAny_bind (wpAny_onRaise (wpAny_ite_false rfl (wpAny_bind (wpAny_nextOf_list_item (Z.i2.at fun o e=>by rw [k2 _ (by omega) (by omega) (by omega)];exact e) (h2.at fun o e=>by rw [k2 _ (by omega) (by omega) (by omega)];exact e) hy fun g3 j3 sb3=>wpAny_pure ?_)))))
 have sb3:g3.objs.size=g2.objs.size∧∀ c:Nat,c≠N+1→g3.get? c=g2.get? c:=sb3
 have t3:g3.get? (N+4)=some (db [x,q,r]):=by rw [sb3.2 _ (by omega)];exact t2
 refine wpAny_bind (wpAny_seqItems t3 rfl (wpAny_bind (wpAny_updateSeq t3 rfl ?_ (by simp [PySem.sizeLine_eq]) (by simp [PySem.sizeLine_eq]))))
 refine wpAny_bind (wpAny_letGo (wpAny_pure ?_))
 generalize hg4:g3.update (N+4) _=g4
 have k4:∀ c:Nat,c≠N+5→c≠N→c≠N+4→c≠N+1→g4.get? c=s.heap.get? c:=fun c c1 c2 c3 c4=>by rw [←hg4,aR c3,sb3.2 c c4];exact k2 c c1 c2 c3
 have z4:g4.get? (N+5)=some (jv Value.ellipsis false (N+3) (N+4)):=by rw [←hg4,aR (by omega),sb3.2 _ (by omega)];exact z2
 have t4:g4.get? (N+4)=some (db [x,y,r]):=by rw [←hg4];exact Heap.get?_update_self _ t3 rfl
 have i4:g4.IsListIter N l1 (k+1):=i2.at fun o e=>by rw [←hg4,aR (by omega),sb3.2 _ (by omega)];exact e
 have i4':g4.IsListIter (N+1) l2 (k+1):=j3.at fun o e=>by rw [←hg4,aR (by omega)];exact e
 have s4:g4.objs.size=s.heap.objs.size:=by rw [←hg4,Heap.size_update,sb3.1,s2]
 refine wpAny_bind (wpAny_bind (wpAny_onRaise (wpAny_ite_false rfl (wpAny_bind (wpAny_nextOf_list_item (Z.i3.at fun o e=>by rw [k4 _ (by omega) (by omega) (by omega) (by omega)];exact e) (h3.at fun o e=>by rw [k4 _ (by omega) (by omega) (by omega) (by omega)];exact e) hv fun g5 j5 sb5=>wpAny_pure ?_)))))
 have sb5:g5.objs.size=g4.objs.size∧∀ c:Nat,c≠N+2→g5.get? c=g4.get? c:=sb5
 have t5:g5.get? (N+4)=some (db [x,y,r]):=by rw [sb5.2 _ (by omega)];exact t4
 refine wpAny_bind (wpAny_seqItems t5 rfl (wpAny_bind (wpAny_updateSeq t5 rfl ?_ (by simp [PySem.sizeLine_eq]) (by simp [PySem.sizeLine_eq]))))
 refine wpAny_bind (wpAny_letGo (wpAny_pure (wpAny_pure ?_)))
 generalize hg6:g5.update (N+4) _=g6
 have k6:∀ c:Nat,c≠N+5→c≠N→c≠N+4→c≠N+1→c≠N+2→g6.get? c=s.heap.get? c:=fun c c1 c2 c3 c4 c5=>by rw [←hg6,aR c3,sb5.2 c c5];exact k4 c c1 c2 c3 c4
 have z6:g6.get? (N+5)=some (jv Value.ellipsis false (N+3) (N+4)):=by rw [←hg6,aR (by omega),sb5.2 _ (by omega)];exact z4
 have t6:g6.get? (N+4)=some (db [x,y,v]):=by rw [←hg6];exact Heap.get?_update_self _ t5 rfl
 have i6:g6.IsListIter N l1 (k+1):=i4.at fun o e=>by rw [←hg6,aR (by omega),sb5.2 _ (by omega)];exact e
 have i6':g6.IsListIter (N+1) l2 (k+1):=i4'.at fun o e=>by rw [←hg6,aR (by omega),sb5.2 _ (by omega)];exact e
 have i6'':g6.IsListIter (N+2) l3 (k+1):=j5.at fun o e=>by rw [←hg6,aR (by omega)];exact e
 have s6:g6.objs.size=s.heap.objs.size:=by rw [←hg6,Heap.size_update,sb5.1,s4]
 refine wpAny_bind (wpAny_seqItems t6 rfl ?_)
 refine wpAny_bind (wpAny_newTuple ?_ (by simp [PySem.sizeLine_eq]))
 have hp:∀ c o,g6.get? c=some o→(g6.push (db [x,y,v])).get? c=some o:=fun c o e=>Heap.get?_push_of_some _ e
 refine wpAny_bind ?_
 unfold Builtin.SmallTypes.ownedTupleHandOut
 refine wpAny_bind (wpAny_setField (hp _ _ z6) rfl (by simp) ?_)
 generalize hg7:(g6.push _).update (N+5) _=g7
 have z7:g7.get? (N+5)=some (jv (rawInt g6.objs.size) false (N+3) (N+4)):=by rw [←hg7];exact Heap.get?_update_self _ (hp _ _ z6) rfl
 refine wpAny_setField z7 rfl (by simp) ?_
 generalize hg8:g7.update (N+5) _=g8
 have z8:g8.get? (N+5)=some (jv (rawInt g6.objs.size) false (N+3) (N+4)):=by rw [←hg8];exact Heap.get?_update_self _ z7 rfl
 have k8:∀ (c:Nat) (o:Obj),c≠N+5→g6.get? c=some o→g8.get? c=some o:=fun c o hc e=>by rw [←hg8,aR hc,←hg7,aR hc];exact hp _ _ e
 refine wpAny_pure ⟨_,rfl,?_⟩
 rw [s6] at z8
 show Q (Value.ref g6.objs.size) _
 rw [s6]
 refine K _ ⟨z8,?_,?_,?_,?_,?_⟩ ?_ ?_ ?_
 ·
  refine k8 _ _ (by omega) ?_
  rw [k6 _ (by omega) (by omega) (by omega) (by omega) (by omega)];exact Z.ti
 ·
  exact ⟨_,_,_,k8 _ _ (by omega) t6⟩
 ·
  exact i6.at fun o e=>k8 _ _ (by omega) e
 ·
  exact i6'.at fun o e=>k8 _ _ (by omega) e
 ·
  exact i6''.at fun o e=>k8 _ _ (by omega) e
 ·
  rw [←hg8,aR (by omega),←hg7,aR (by omega),←s6];exact Heap.get?_push_size _ rfl
 ·
  rw [←hg8,Heap.size_update,←hg7,Heap.size_update,Heap.size_push,s6]
 ·
  intro c o hc e
  unfold Off at hc
  refine k8 _ _ (by omega) ?_
  rw [k6 _ (by omega) (by omega) (by omega) (by omega) (by omega)];exact e
theorem next3_end {prog:Program} {w:World} {A:Around} {E:Value→Shared→Prop} {s:Shared} {N l1 l2 l3 k:Nat} {f0:Value} {f1:Bool} {xs ys:Array Value} {x:Value} {Q:PySem.Fin→Shared→Prop} (hA:A.handled=none)
  (Z:Zs s.heap N l1 l2 l3 k f0 f1) (hf:(f0=.none∧f1=false)∨∃ (a:Addr) (o:Obj),f0=rawInt a∧s.heap.get? a=some o) (h1:s.heap.IsList l1 xs) (h2:s.heap.IsList l2 ys) (b1:l1<N) (b2:l2<N)
  (hx:xs[k]?=some x) (hy:ys[k]?=none)
  (K:∀ (h':Heap) (e:Addr),(∀ (c:Nat) (o:Obj),Off N c→s.heap.get? c=some o→h'.get? c=some o)→(∃ o,h'.get? e=some o∧o.cls=Value.type "StopIteration")→E (Value.ref e) { s with heap:=h' }) :
  wpAny (model prog w) A (Builtin.«zip.__next__» { pos:=[Value.ref (N+5)] }) Q E s:=by
 unfold Builtin.«zip.__next__»
 refine wpAny_bind (wpAny_of_eq (a:=(Value.ref (N+5),[])) rfl ?_)
 refine wpAny_bind (wpAny_field (x:=Value.bool false) Z.z rfl rfl ?_)
 refine wpAny_bind (wpAny_field (x:=Value.ref (N+3)) Z.z rfl rfl ?_)
 refine wpAny_bind (wpAny_seqItems Z.ti rfl ?_)
 refine wpAny_ite_false rfl ?_
 refine wpAny_bind ?_
 unfold Builtin.SmallTypes.ownedTupleIsFree
 rcases hf with ⟨rfl,rfl⟩ | ⟨a,o,rfl,ha⟩
 ·
  refine wpAny_bind (wpAny_field (x:=Value.none) Z.z rfl rfl (wpAny_pure ?_))
  refine wpAny_ite_true rfl ?_
  refine wpAny_bind (wpAny_rule ?_)
  refine wpAny_bind (wpAny_field (x:=Value.ref (N+4)) Z.z rfl rfl ?_)
  refine wpAny_bind (wpAny_setField Z.z rfl (by simp) ?_)
  obtain ⟨p,q,r,hto⟩:=Z.to
  generalize hg0:s.heap.update (N+5) (Obj.mapFields fun x_1=>x_1.setIfInBounds 0 Value.ellipsis)=g0
  have k0:∀ c:Nat,c≠N+5→g0.get? c=s.heap.get? c:=fun c hc=>by rw [←hg0];exact aR hc
  have z0:g0.get? (N+5)=some (jv Value.ellipsis false (N+3) (N+4)):=by rw [←hg0];exact Heap.get?_update_self _ Z.z rfl
  simp only [List.zipIdx_cons,List.zipIdx_nil,List.forIn_cons,List.forIn_nil]
  refine wpAny_bind (wpAny_bind (wpAny_bind (wpAny_onRaise (wpAny_ite_false rfl (wpAny_bind (wpAny_nextOf_list_item (Z.i1.at fun o e=>by rw [k0 _ (by omega)];exact e) (h1.at fun o e=>by rw [k0 _ (by omega)];exact e) hx fun g1 j1 sb1=>wpAny_pure ?_))))))
  have sb1:g1.objs.size=g0.objs.size∧∀ c:Nat,c≠N→g1.get? c=g0.get? c:=sb1
  have t1:g1.get? (N+4)=some (db [p,q,r]):=by rw [sb1.2 _ (by omega),k0 _ (by omega)];exact hto
  refine wpAny_bind (wpAny_seqItems t1 rfl (wpAny_bind (wpAny_updateSeq t1 rfl ?_ (by simp [PySem.sizeLine_eq]) (by simp [PySem.sizeLine_eq]))))
  refine wpAny_bind (wpAny_letGo (wpAny_pure ?_))
  generalize hg2:g1.update (N+4) _=g2
  have k2:∀ c:Nat,c≠N+5→c≠N→c≠N+4→g2.get? c=s.heap.get? c:=fun c c1 c2 c3=>by rw [←hg2,aR c3,sb1.2 c c2];exact k0 c c1
  have z2:g2.get? (N+5)=some (jv Value.ellipsis false (N+3) (N+4)):=by rw [←hg2,aR (by omega),sb1.2 _ (by omega)];exact z0
  refine wpAny_bind (wpAny_bind (wpAny_onRaise (wpAny_ite_false rfl (wpAny_bind (wpAny_nextOf_list_end hA (Z.i2.at fun o e=>by rw [k2 _ (by omega) (by omega) (by omega)];exact e) (h2.at fun o e=>by rw [k2 _ (by omega) (by omega) (by omega)];exact e) hy fun g3 e hext he=>?_)))))
  have hext:∀ (c:Nat) (o:Obj),c≠N+1→g2.get? c=some o→g3.get? c=some o:=hext
  refine wpAny_setField (hext _ _ (by omega) z2) rfl (by simp) ?_
  obtain ⟨oe,he1,he2⟩:=he
  refine K _ e ?_ ?_
  ·
   intro c o hc hce
   unfold Off at hc
   rw [aR (by omega)]
   refine hext _ _ (by omega) ?_
   rw [k2 _ (by omega) (by omega) (by omega)];exact hce
  ·
   by_cases hez:e=N+5
   ·
    subst hez
    rw [hext _ _ (by omega) z2] at he1
    cases he1
    exact absurd (show Value.type "zip" = Value.type "StopIteration" from he2) (by decide)
   ·
    exact ⟨oe,by rw [aR hez];exact he1,he2⟩
 ·
  refine wpAny_bind (wpAny_field (x:=rawInt a) Z.z rfl rfl ?_)
  refine wpAny_bind (nQ ?_)
  rw [show ((a:Int).toNat)=a from rfl,ha]
  refine wpAny_ite_false rfl ?_
  refine wpAny_bind (wpAny_field (x:=Value.bool f1) Z.z rfl rfl ?_)
  refine thn3 (Q:=fun b s'=>b=false∧∃ h0:Heap,s'={ s with heap:=h0 }∧∀ c:Nat,c≠N+5→h0.get? c=s.heap.get? c) ?_ ?_
  ·
   cases f1 with
   | true=>exact wpAny_ite_false rfl (wpAny_pure ⟨rfl,s.heap,rfl,fun _ _=>rfl⟩)
   | false=>exact wpAny_ite_true rfl (wpAny_bind (wpAny_setField Z.z rfl (by simp) (wpAny_pure ⟨rfl,_,rfl,fun c hc=>aR hc⟩)))
  ·
   rintro b s0 ⟨rfl,h0,rfl,hk0⟩
   refine wpAny_ite_false rfl ?_
   simp only [List.forIn_toArray,List.forIn_cons,List.forIn_nil]
   refine wpAny_bind (wpAny_bind (wpAny_bind (wpAny_holding (wpAny_ite_false rfl (wpAny_bind (wpAny_nextOf_list_item (Z.i1.at fun o e=>by rw [hk0 _ (by omega)];exact e) (h1.at fun o e=>by rw [hk0 _ (by omega)];exact e) hx fun g1 j1 sb1=>wpAny_pure ?_))))))
   refine wpAny_pure ?_
   have sb1:g1.objs.size=h0.objs.size∧∀ c:Nat,c≠N→g1.get? c=h0.get? c:=sb1
   have e1:∀ c:Nat,c≠N+5→c≠N→g1.get? c=s.heap.get? c:=fun c c1 c2=>by rw [sb1.2 c c2];exact hk0 c c1
   refine wpAny_bind (wpAny_bind (wpAny_holding (wpAny_ite_false rfl (wpAny_bind (wpAny_nextOf_list_end hA (Z.i2.at fun o e=>by rw [e1 _ (by omega) (by omega)];exact e) (h2.at fun o e=>by rw [e1 _ (by omega) (by omega)];exact e) hy fun g3 e hext he=>?_)))))
   have hext:∀ (c:Nat) (o:Obj),c≠N+1→g1.get? c=some o→g3.get? c=some o:=hext
   refine K _ e ?_ he
   intro c o hc hce
   unfold Off at hc
   refine hext _ _ (by omega) ?_
   rw [e1 _ (by omega) (by omega)];exact hce
end Ew
open PyProof.Rows PySem PySem.Spec
set_option maxRecDepth 100000
set_option linter.all false
set_option Elab.async false
namespace Ew
theorem o4:typeLookup (Value.type "zip") (Str.ofString "__len__")=pure none:=by with_unfolding_all rfl
theorem nR:typeLookup (Value.type "zip") (Str.ofString "__length_hint__")=pure none:=by with_unfolding_all rfl
def FOk (M0 k:Nat) (f0:Value) (f1:Bool):Prop:=(k=0∧f0=.none∧f1=false)∨(0<k∧f0=rawInt M0)
theorem mG {prog:Program} {w:World} {A:Around} {E:Value→Shared→Prop} {s:Shared} {N l1 l2 l3 k M0:Nat} {f0:Value} {f1:Bool} {xs ys zs:Array Value} {x y v:Value} {Q:Option Value→Shared→Prop}
  (Z:Zs s.heap N l1 l2 l3 k f0 f1) (hf:FOk M0 k f0 f1) (hsz:s.heap.objs.size=M0+k) (hal:0<k→∃ o,s.heap.get? M0=some o) (h1:s.heap.IsList l1 xs) (h2:s.heap.IsList l2 ys) (h3:s.heap.IsList l3 zs) (b1:l1<N) (b2:l2<N) (b3:l3<N)
  (hx:xs[k]?=some x) (hy:ys[k]?=some y) (hv:zs[k]?=some v)
  (K:∀ (h':Heap) (g:Bool),Zs h' N l1 l2 l3 (k+1) (rawInt M0) g→h'.get? (M0+k)=some (db [x,y,v])→h'.objs.size=M0+(k+1)→(∀ (c:Nat) (o:Obj),Off N c→s.heap.get? c=some o→h'.get? c=some o)→Q (some (Value.ref (M0+k))) { s with heap:=h' }) :
  wpAny (model prog w) A (pyNext (Value.ref (N+5))) Q E s:=by
 unfold pyNext
 have hty:s.TypeIs (Value.ref (N+5)) "zip":=⟨_,Z.z,rfl⟩
 refine wpAny_bind (wpAny_attempt (wpAny_callSpecial?_slot hty F.slot_zip_next (wpAny_call_entry F.slot_zip_next hty F.entry_zip_next ?_ (F.args_zip_next_1 _))))
 rcases hf with ⟨rfl,rfl,rfl⟩ | ⟨hk,rfl⟩
 ·
  refine next3_fr Z h1 h2 h3 b1 b2 b3 hx hy hv fun h' Z' t' s' k'=>wpAny_pure ?_
  rw [hsz] at t' s' Z' ⊢
  exact K h' false Z' t' (by omega) k'
 ·
  obtain ⟨o,ho⟩:=hal hk
  refine next3_nf Z ho h1 h2 h3 b1 b2 b3 hx hy hv fun h' Z' t' s' k'=>wpAny_pure ?_
  rw [hsz] at t' s' ⊢
  exact K h' true Z' t' (by omega) k'
theorem nS {prog:Program} {w:World} {A:Around} {E:Value→Shared→Prop} {s:Shared} {N l1 l2 l3 k M0:Nat} {f0:Value} {f1:Bool} {xs ys:Array Value} {x:Value} {Q:Option Value→Shared→Prop} (hA:A.handled=none)
  (Z:Zs s.heap N l1 l2 l3 k f0 f1) (hf:FOk M0 k f0 f1) (hal:0<k→∃ o,s.heap.get? M0=some o) (h1:s.heap.IsList l1 xs) (h2:s.heap.IsList l2 ys) (b1:l1<N) (b2:l2<N)
  (hx:xs[k]?=some x) (hy:ys[k]?=none)
  (K:∀ h':Heap,(∀ (c:Nat) (o:Obj),Off N c→s.heap.get? c=some o→h'.get? c=some o)→Q none { s with heap:=h' }) :
  wpAny (model prog w) A (pyNext (Value.ref (N+5))) Q E s:=by
 unfold pyNext
 have hty:s.TypeIs (Value.ref (N+5)) "zip":=⟨_,Z.z,rfl⟩
 refine wpAny_bind (wpAny_attempt (wpAny_callSpecial?_slot hty F.slot_zip_next (wpAny_call_entry F.slot_zip_next hty F.entry_zip_next ?_ (F.args_zip_next_1 _))))
 have hf':(f0=.none∧f1=false)∨∃ (a:Addr) (o:Obj),f0=rawInt a∧s.heap.get? a=some o:=by
  rcases hf with ⟨_,rfl,rfl⟩ | ⟨hk,rfl⟩
  ·
   exact .inl ⟨rfl,rfl⟩
  ·
   obtain ⟨o,ho⟩:=hal hk
   exact .inr ⟨M0,o,rfl,ho⟩
 refine next3_end (A:=A.in1) hA Z hf' h1 h2 b1 b2 hx hy fun h' e hk he=>?_
 refine wpAny_bind (wpAny_isInstance he isSubtype_stop ?_)
 exact wpAny_ite_true rfl (wpAny_pure (K h' hk))
abbrev gP (vs:Array Value) (c:Nat):Obj:={ cls:=Value.type "list",data:=Data.seq vs c }
theorem ext3_loop {prog:Program} {w:World} {A:Around} {R:Result→Shared→Prop} {N l1 l2 l3 S M0:Nat} {xs ys zs:Array Value} {res:Value} (hA:A.handled=none)
  (b1:l1<N) (b2:l2<N) (b3:l3<N) (bS:N+5<S) (bM:S<M0) (hn1:xs.size=ys.size+1) (hn3:zs.size=ys.size) (hsm:ys.size≤sizeLine) :
  ∀ (d k:Nat) (s:Shared) (f0:Value) (f1:Bool) (acc:Array Value) (c:Nat),ys.size-k=d→k≤ys.size→Zs s.heap N l1 l2 l3 k f0 f1→FOk M0 k f0 f1→s.heap.objs.size=M0+k→
   s.heap.IsList l1 xs→s.heap.IsList l2 ys→s.heap.IsList l3 zs→s.heap.get? S=some (gP acc c)→acc.toList=(List.range k).map (fun j=>Value.ref (M0+j))→
   (∀ j x y v,j<k→xs[j]?=some x→ys[j]?=some y→zs[j]?=some v→s.heap.get? (M0+j)=some (db [x,y,v]))→
   (∀ (h':Heap) (acc':Array Value) (c':Nat),h'.get? S=some (gP acc' c')→acc'.toList=(List.range ys.size).map (fun j=>Value.ref (M0+j))→
    (∀ j x y v,j<ys.size→xs[j]?=some x→ys[j]?=some y→zs[j]?=some v→h'.get? (M0+j)=some (db [x,y,v]))→
    (∀ (c:Nat) (o:Obj),c<N→s.heap.get? c=some o→h'.get? c=some o)→R (Except.ok (Flow.ret res)) { s with heap:=h' })→
   codeAny (model prog w) A (Code.builtin "list.extend.loop" { pos:=[Value.ref S,Value.ref (N+5),res] }) R s:=by
 intro d
 induction d with
 | zero=>
  intro k s f0 f1 acc c hd hk Z hf hsz h1 h2 h3 hS hacc htup K
  have hk':k=ys.size:=by omega
  refine codeAny_builtin F.entry_extend_loop ?_
  rw [Around.under_plainId F.plain_extend_loop]
  unfold Builtin.«list.extend.loop»
  obtain ⟨x,hx⟩ : ∃ x,xs[k]?=some x:=⟨xs[k]'(by omega),by simp⟩
  have hal:0<k→∃ o,s.heap.get? M0=some o:=by
   intro h0
   have:=htup 0 (xs[0]'(by omega)) (ys[0]'(by omega)) (zs[0]'(by omega)) h0 (by simp) (by simp) (by simp)
   exact ⟨_,this⟩
  refine wpAny_bind (nS (A:=A.in1) hA Z hf hal h1 h2 b1 b2 hx (by simp [hk']) fun h' hh=>?_)
  refine wpAny_pure ?_
  refine K h' acc c (hh _ _ (by unfold Off;omega) hS) (by rw [hacc,hk']) ?_ ?_
  ·
   intro j x y v hj e1 e2 e3
   exact hh _ _ (by unfold Off;omega) (htup j x y v (by omega) e1 e2 e3)
  ·
   intro c o hc e
   exact hh _ _ (by unfold Off;omega) e
 | succ d ih=>
  intro k s f0 f1 acc c hd hk Z hf hsz h1 h2 h3 hS hacc htup K
  refine codeAny_builtin F.entry_extend_loop ?_
  rw [Around.under_plainId F.plain_extend_loop]
  unfold Builtin.«list.extend.loop»
  have l1':k<xs.size:=by omega
  have l2':k<ys.size:=by omega
  have l3':k<zs.size:=by omega
  have hal:0<k→∃ o,s.heap.get? M0=some o:=by
   intro h0
   have:=htup 0 (xs[0]'(by omega)) (ys[0]'(by omega)) (zs[0]'(by omega)) h0 (by simp) (by simp) (by simp)
   exact ⟨_,this⟩
  refine wpAny_bind (mG (x:=xs[k]) (y:=ys[k]) (v:=zs[k]) Z hf hsz hal h1 h2 h3 b1 b2 b3 (by simp) (by simp) (by simp) fun h' g Z' t' s' k'=>?_)
  have hS':h'.get? S=some (gP acc c):=k' _ _ (by unfold Off;omega) hS
  have hal:acc.size=k:=by
   have:=congrArg List.length hacc
   simpa using this
  refine wpAny_bind (listUpdate_at hS' rfl ?_ (by omega) (by simp;omega))
  refine wpAny_pure ⟨plainId_quiet F.plain_extend_loop _,?_⟩
  generalize hg:h'.update S (Obj.mapSeq fun x_1=>x_1.push (Value.ref (M0+k)))=h''
  have ho:∀ c:Nat,c≠S→h''.get? c=h'.get? c:=fun c hc=>by rw [←hg];exact aR hc
  have hS'':∃ c'',h''.get? S=some (gP (acc.push (Value.ref (M0+k))) c''):=⟨_,by rw [←hg];exact Heap.get?_update_self _ hS' rfl⟩
  obtain ⟨c'',hS''⟩:=hS''
  have hL:∀ {l:Nat} {us:Array Value},l<N→s.heap.IsList l us→h''.IsList l us:=fun {l us} hl hh=>hh.at fun o e=>by
   rw [ho _ (by omega)];exact k' _ _ (by unfold Off;omega) e
  refine ih (k+1) { s with heap:=h'' } (rawInt M0) g (acc.push (Value.ref (M0+k))) c'' (by omega) (by omega) ?_ (.inr ⟨by omega,rfl⟩) ?_ (hL b1 h1) (hL b2 h2) (hL b3 h3) hS'' ?_ ?_ ?_
  ·
   obtain ⟨p,q,r,e⟩:=Z'.to
   exact ⟨by rw [ho _ (by omega)];exact Z'.z,by rw [ho _ (by omega)];exact Z'.ti,⟨p,q,r,by rw [ho _ (by omega)];exact e⟩,Z'.i1.at fun o e=>by rw [ho _ (by omega)];exact e,Z'.i2.at fun o e=>by rw [ho _ (by omega)];exact e,Z'.i3.at fun o e=>by rw [ho _ (by omega)];exact e⟩
  ·
   show h''.objs.size=_
   rw [←hg,Heap.size_update,s']
  ·
   simp [hacc,List.range_succ]
  ·
   intro j x y v hj e1 e2 e3
   show h''.get? (M0+j)=_
   rw [ho _ (by omega)]
   by_cases hjk:j=k
   ·
    subst hjk
    rw [Array.getElem?_eq_getElem l1'] at e1
    rw [Array.getElem?_eq_getElem l2'] at e2
    rw [Array.getElem?_eq_getElem l3'] at e3
    cases e1;cases e2;cases e3
    exact t'
   ·
    exact k' _ _ (by unfold Off;omega) (htup j x y v (by omega) e1 e2 e3)
  ·
   intro h3' acc' c3 q1 q2 q3 q4
   refine K h3' acc' c3 q1 q2 q3 ?_
   intro c o hc e
   refine q4 c o hc ?_
   show h''.get? c=some o
   rw [ho _ (by omega)]
   exact k' _ _ (by unfold Off;omega) e
theorem ku {prog:Program} {w:World} {A:Around} {E:Value→Shared→Prop} {s:Shared} {N l1 l2 l3:Nat} {xs ys zs:Array Value} {Q:Value→Shared→Prop} (hA:A.handled=none)
  (hN:s.heap.objs.size=N+6) (Z:Zs s.heap N l1 l2 l3 0 .none false) (h1:s.heap.IsList l1 xs) (h2:s.heap.IsList l2 ys) (h3:s.heap.IsList l3 zs)
  (b1:l1<N) (b2:l2<N) (b3:l3<N) (hn1:xs.size=ys.size+1) (hn3:zs.size=ys.size) (hsm:ys.size≤sizeLine)
  (K:∀ (h':Heap) (acc':Array Value) (c':Nat),h'.get? (N+6)=some (gP acc' c')→acc'.toList=(List.range ys.size).map (fun j=>Value.ref (N+7+j))→
   (∀ j x y v,j<ys.size→xs[j]?=some x→ys[j]?=some y→zs[j]?=some v→h'.get? (N+7+j)=some (db [x,y,v]))→
   (∀ (c:Nat) (o:Obj),c<N→s.heap.get? c=some o→h'.get? c=some o)→Q (Value.ref (N+6)) { s with heap:=h' }) :
  wpAny (model prog w) A (call (Value.type "list") [Value.ref (N+5)]) Q E s:=by
 refine callType_codes F.called_list (F.typeCall_list_1 _) F.entry_list_init (code_list_new _ (Q₁:=fun v s₁=>v=Value.ref (N+6)∧s₁={ s with heap:=s.heap.push (gP #[] 0) }) ⟨by rw [hN],rfl⟩) ?_
 rintro obj s₁ ⟨rfl,rfl⟩
 have hnew:(s.heap.push (gP #[] 0)).get? (N+6)=some (gP #[] 0):=by
  have:=Heap.get?_push_size s.heap (o:=gP #[] 0) rfl
  rw [hN] at this
  exact this
 refine ⟨⟨_,hnew,rfl⟩,F.args_list_init_2 _ _,?_⟩
 unfold Builtin.«list.__init__»
 refine wpAny_ite_false rfl ?_
 refine wpAny_ite_false rfl ?_
 refine wpAny_bind (wpAny_bind (wpAny_seqItems hnew rfl (wpAny_pure ?_)))
 refine wpAny_bind (listUpdate_at hnew rfl ?_ (by simp) (by simp))
 refine wpAny_bind (wpAny_letGo ?_)
 unfold Builtin.List.listExtendWith
 generalize hg:(s.heap.push (gP #[] 0)).update (N+6) (Obj.mapSeq fun _=>#[])=g
 have hp:∀ (c:Nat) (o:Obj),s.heap.get? c=some o→(s.heap.push (gP #[] 0)).get? c=some o:=fun c o e=>Heap.get?_push_of_some _ e
 have k1:∀ (c:Nat) (o:Obj),s.heap.get? c=some o→g.get? c=some o:=fun c o e=>by
  have:c<s.heap.objs.size:=Heap.lt_size e
  rw [←hg,aR (by omega)];exact hp c o e
 obtain ⟨c1,hS⟩ : ∃ c1,g.get? (N+6)=some (gP #[] c1):=⟨_,by rw [←hg];exact Heap.get?_update_self _ hnew rfl⟩
 have hsz:g.objs.size=N+7:=by rw [←hg,Heap.size_update,Heap.size_push,hN]
 have hty:({ s with heap:=g }:Shared).TypeIs (Value.ref (N+5)) "zip":=⟨_,k1 _ _ Z.z,rfl⟩
 refine wpAny_bind (wpAny_typeOf hty ?_)
 refine wpAny_ite_false (by simp [Builtin.List.listSameRef]) ?_
 refine wpAny_bind (wpAny_pyIter_zip (k1 _ _ Z.z) ?_)
 refine wpAny_bind (wpAny_holding ?_)
 unfold Builtin.List.listLengthHint
 refine wpAny_bind (wpAny_specialOf hty o4 ?_)
 refine wpAny_ite_false rfl ?_
 refine wpAny_ite_false rfl ?_
 refine wpAny_bind (wpAny_specialOf hty nR (wpAny_pure ?_))
 refine wpAny_ite_true rfl ?_
 refine wpAny_bind (wpAny_rule ?_)
 refine wpAny_bind ?_
 unfold Builtin.List.listTouch
 refine wpAny_bind (listUpdate_at hS rfl ?_ (by simp) (by simp))
 generalize hg2:g.update (N+6) (Obj.mapSeq fun x=>x.push Value.none)=g2
 obtain ⟨c2,hS2⟩ : ∃ c2,g2.get? (N+6)=some (gP #[Value.none] c2):=⟨_,by rw [←hg2];exact Heap.get?_update_self _ hS rfl⟩
 refine listUpdate_at hS2 rfl ?_ (by simp [PySem.sizeLine_eq]) (by simp)
 generalize hg3:g2.update (N+6) (Obj.mapSeq fun x=>x.pop)=g3
 obtain ⟨c3,hS3⟩ : ∃ c3,g3.get? (N+6)=some (gP #[] c3):=⟨_,by rw [←hg3];exact Heap.get?_update_self _ hS2 rfl⟩
 have k3:∀ (c:Nat) (o:Obj),s.heap.get? c=some o→g3.get? c=some o:=fun c o e=>by
  have:c<s.heap.objs.size:=Heap.lt_size e
  rw [←hg3,aR (by omega),←hg2,aR (by omega)];exact k1 c o e
 have hsz3:g3.objs.size=N+7:=by rw [←hg3,Heap.size_update,←hg2,Heap.size_update,hsz]
 refine wpAny_pure ⟨plainId_quiet F.plain_extend_loop _,?_⟩
 obtain ⟨p,q,r,e⟩:=Z.to
 refine ext3_loop (A:=A.in1) (N:=N) (S:=N+6) (M0:=N+7) (l1:=l1) (l2:=l2) (l3:=l3) (xs:=xs) (ys:=ys) (zs:=zs) hA b1 b2 b3 (by omega) (by omega) hn1 hn3 hsm _ 0 { s with heap:=g3 } .none false #[] c3 rfl (by omega)
  ⟨k3 _ _ Z.z,k3 _ _ Z.ti,⟨p,q,r,k3 _ _ e⟩,Z.i1.at fun o e=>k3 _ _ e,Z.i2.at fun o e=>k3 _ _ e,Z.i3.at fun o e=>k3 _ _ e⟩ (.inl ⟨rfl,rfl,rfl⟩) hsz3 (h1.at fun o e=>k3 _ _ e) (h2.at fun o e=>k3 _ _ e) (h3.at fun o e=>k3 _ _ e) hS3 (by simp) (by intro j x y v hj;omega) ?_
 intro h' acc' c' q1 q2 q3 q4
 exact ⟨rfl,K h' acc' c' q1 q2 q3 fun c o hc e=>q4 c o hc (k3 _ _ e)⟩
theorem list_zip3 {prog:Program} {w:World} {A A':Around} {E E':Value→Shared→Prop} {s:Shared} {l1 l2 l3:Nat} {xs ys zs:Array Value} {Q:Value→Shared→Prop} (hA:A.handled=none)
  (h1:s.heap.IsList l1 xs) (h2:s.heap.IsList l2 ys) (h3:s.heap.IsList l3 zs)
  (b1:l1<s.heap.objs.size) (b2:l2<s.heap.objs.size) (b3:l3<s.heap.objs.size) (hn1:xs.size=ys.size+1) (hn3:zs.size=ys.size) (hsm:ys.size≤sizeLine)
  (K:∀ (h':Heap) (acc':Array Value) (c':Nat),h'.get? (s.heap.objs.size+6)=some (gP acc' c')→acc'.toList=(List.range ys.size).map (fun j=>Value.ref (s.heap.objs.size+7+j))→
   (∀ j x y v,j<ys.size→xs[j]?=some x→ys[j]?=some y→zs[j]?=some v→h'.get? (s.heap.objs.size+7+j)=some (db [x,y,v]))→
   (∀ (c:Nat) (o:Obj),s.heap.get? c=some o→h'.get? c=some o)→Q (Value.ref (s.heap.objs.size+6)) { s with heap:=h' }) :
  wpAny (model prog w) A' (call (Value.type "zip") [Value.ref l1,Value.ref l2,Value.ref l3]) (fun z s1=>wpAny (model prog w) A (call (Value.type "list") [z]) Q E s1) E' s:=by
 refine call_zip3 h1 h2 h3 ?_
 have e0:=Heap.get?_push_size s.heap (o:=itO l1 0) rfl
 have e1:=Heap.get?_push_size (s.heap.push (itO l1 0)) (o:=itO l2 0) rfl
 have e2:=Heap.get?_push_size ((s.heap.push (itO l1 0)).push (itO l2 0)) (o:=itO l3 0) rfl
 have e3:=Heap.get?_push_size (((s.heap.push (itO l1 0)).push (itO l2 0)).push (itO l3 0)) (o:=db [.ref s.heap.objs.size,.ref (s.heap.objs.size+1),.ref (s.heap.objs.size+2)]) rfl
 have e4:=Heap.get?_push_size ((((s.heap.push (itO l1 0)).push (itO l2 0)).push (itO l3 0)).push (db [.ref s.heap.objs.size,.ref (s.heap.objs.size+1),.ref (s.heap.objs.size+2)])) (o:=db [.none,.none,.none]) rfl
 have e5:=Heap.get?_push_size (((((s.heap.push (itO l1 0)).push (itO l2 0)).push (itO l3 0)).push (db [.ref s.heap.objs.size,.ref (s.heap.objs.size+1),.ref (s.heap.objs.size+2)])).push (db [.none,.none,.none])) (o:=jv .none false (s.heap.objs.size+3) (s.heap.objs.size+4)) rfl
 simp only [Heap.size_push] at e1 e2 e3 e4 e5
 have up:∀ (h:Heap) (o:Obj) (c:Nat) (u:Obj),h.get? c=some u→(h.push o).get? c=some u:=fun h o c u e=>Heap.get?_push_of_some _ e
 have old:∀ (c:Nat) (u:Obj),s.heap.get? c=some u→(j4 s.heap l1 l2 l3).get? c=some u:=fun c u e=>up _ _ _ _ (up _ _ _ _ (up _ _ _ _ (up _ _ _ _ (up _ _ _ _ (up _ _ _ _ e)))))
 refine ku (N:=s.heap.objs.size) (l1:=l1) (l2:=l2) (l3:=l3) hA (by simp [j4,Heap.size_push]) ⟨e5,up _ _ _ _ (up _ _ _ _ e3),⟨_,_,_,up _ _ _ _ e4⟩,⟨_,up _ _ _ _ (up _ _ _ _ (up _ _ _ _ (up _ _ _ _ (up _ _ _ _ e0)))),rfl,rfl⟩,⟨_,up _ _ _ _ (up _ _ _ _ (up _ _ _ _ (up _ _ _ _ e1))),rfl,rfl⟩,⟨_,up _ _ _ _ (up _ _ _ _ (up _ _ _ _ e2)),rfl,rfl⟩⟩
  (h1.at fun o e=>old _ _ e) (h2.at fun o e=>old _ _ e) (h3.at fun o e=>old _ _ e) b1 b2 b3 hn1 hn3 hsm ?_
 intro h' acc' c' q1 q2 q3 q4
 exact K h' acc' c' q1 q2 q3 fun c o e=>q4 c o (Heap.lt_size e) (old c o e)
end Ew
end
section
set_option Elab.async false
set_option linter.all false
set_option maxRecDepth 100000
namespace L2
open PySem PySem.Spec PyProof.Rows
section
variable {X:Cx} {pins:List (Addr×Obj)} {σ:List (Option V)} {H H':Hp} {s:Shared} {h':Heap}
theorem Inv.lays {t':Nat} (I:Inv X pins σ H s) (k:∀ b u,s.heap.get? b=some u→h'.get? b=some u) (hold:∀ b u,H b=some u→H' b=some u) (hnew:∀ b,b<s.heap.objs.size→H' b=H b)
  (new:∀ b u,H b=none→H' b=some u→cp X.prog X.w H' h' b u):Inv X pins σ H' { s with heap:=h',toks:=t' }:=by
 refine I.step (g':=s.gens) (d':=s.drawn) (ch:=[]) (by simp) (fun b u _ _ _ e _=>k b u e) (fun b u _ _ _ e _=>⟨u.slots,k b u e⟩)
  (fun b u _ e n=>by rw [hnew b (Heap.lt_size e)];exact n) (fun b u _ e=>⟨u,k b u e⟩)
  (fun b xs e=>hold _ _ e) (fun b u xs e=>hold _ _ e) (fun b ps e=>⟨#[],by rw [hold _ _ e];simp⟩) (fun m hm=>?_) (fun b u e=>?_) I.bare
 ·
  obtain ⟨ob,es,ep,ho,r⟩:=hm
  exact ⟨ob,es,ep,k _ ob ho,r⟩
 ·
  cases hb:H b with
  | none=>exact new b u hb e
  | some u'=>
   rw [hold b u' hb] at e
   cases e
   exact (I.hok b u hb).stay (fun c v _ q=>k c v q) (fun c q=>hold _ _ q) fun c xs q=>hold _ _ q
end
def tZip3 (K:PySem.W.Frag) (ta:TA):TE:=fun σ H Q=>ta σ H fun vs H1=>∃ a b c xs ys zs,vs=[.ref a,.ref b,.ref c]∧SqL K H1 a xs∧SqL K H1 b ys∧SqL K H1 c zs∧xs.length=ys.length+1∧zs.length=ys.length∧
 ∀ (l:Addr) (q:Nat→Addr) (H':Hp),aG H1 H'→H1 l=none→(∀ j,H1 (q j)=none)→(∀ j,q j≠l)→H' l=some (.lst ((List.range ys.length).map fun j=>.ref (q j)))→
  (∀ j x y z,xs[j]?=some x→ys[j]?=some y→zs[j]?=some z→H' (q j)=some (.tup [x,y,z]))→
  (∀ b u,H' b=some u→H1 b=some u∨b=l∨∃ j,j<ys.length∧b=q j)→Q (.ref l) H'
section
variable {X:Cx} {a b c:Expr} {ta:TA} {p1 p2 pos1 pos2:Pos}
set_option maxHeartbeats 4000000 in
theorem nT (hc:X.calm=true) (ha:PA X [a,b,c] ta) (hg:Gl X "list") (hm:X.mg "list" = none) (hg2:Gl X "zip") (hm2:X.mg "zip" = none)
   (hs:starEach [a,b,c] X.env=(false,eval a X.env)::starEach [b,c] X.env:=by rfl) (hpl:(backTo pos2 (starEach [b,c] X.env)).any (·.1)=false:=by rfl)
   (hs2:starEach [.Call (.Name "zip" p2) [a,b,c] [] pos2] X.env=[(false,eval (.Call (.Name "zip" p2) [a,b,c] [] pos2) X.env)]:=by rfl) :
   PE X (.Call (.Name "list" p1) [.Call (.Name "zip" p2) [a,b,c] [] pos2] [] pos1) (tZip3 X.K ta):=by
 intro pins s σ H Q I h
 refine wpAny_Call_Name_kw (fT I hg hm boot_list ?_ (by decide) (by decide))
 refine PyProof.Rows.callWith_type1 (rest:=[]) ?_ hs2 rfl
 rw [hs2]
 refine Calls.spliced_cons (rest:=[]) ?_
 refine wpAny_Call_Name_kw (fT I hg2 hm2 boot_zip ?_ (by decide) (by decide))
 refine PyProof.Rows.callWith_type1 (thn (ha pos2 pins s σ H _ I h) fun us s1 ⟨vs,H1,I1,r1,q1⟩=>?_) hs hpl
 obtain ⟨x,y,z,xs,ys,zs,rfl,hx,hy,hz,n1,n3,q⟩:=q1
 cases r1 with
 | cons ra rr=>cases rr with
  | cons rb rr=>cases rr with
   | cons rc rr=>
   cases rr
   cases ra
   cases rb
   cases rc
   obtain ⟨i1,v1,p1,z1⟩:=I1.list hx
   obtain ⟨i2,v2,p2,z2⟩:=I1.list hy
   obtain ⟨i3,v3,p3,z3⟩:=I1.list hz
   have l1:=v1.length
   have l2:=v2.length
   have l3:=v3.length
   have lx:x<s1.heap.objs.size:=by obtain ⟨o,n,e,_⟩:=p1;exact Heap.lt_size e
   have ly:y<s1.heap.objs.size:=by obtain ⟨o,n,e,_⟩:=p2;exact Heap.lt_size e
   have lz:z<s1.heap.objs.size:=by obtain ⟨o,n,e,_⟩:=p3;exact Heap.lt_size e
   refine thn (Ew.list_zip3 (A:=X.A) (E:=X.xe) (Q:=EP X pins σ Q) (I1.ok.hd hc) p1.isList p2.isList p3.isList lx ly lz (by simp;omega) (by simp;omega) (by simp;omega) ?_) fun v s2 hv=>Calls.spliced_nil hv
   intro h' acc' c' q1 q2 q3 q4
   simp only [List.size_toArray] at q2 q3
   let qa:Nat→Addr:=fun j=>s1.heap.objs.size+7+j
   have hfr:∀ b,s1.heap.objs.size≤b→H1 b=none:=fun b hb=>I1.hok.fresh hb
   classical
   let H2:Hp:=fun b=>if b=s1.heap.objs.size+6 then some (.lst ((List.range ys.length).map fun j=>.ref (qa j))) else
    if hb:s1.heap.objs.size+7≤b∧b<s1.heap.objs.size+7+ys.length then some (.tup [xs.getD (b-(s1.heap.objs.size+7)) .non,ys.getD (b-(s1.heap.objs.size+7)) .non,zs.getD (b-(s1.heap.objs.size+7)) .non]) else H1 b
   have hL:H2 (s1.heap.objs.size+6)=some (.lst ((List.range ys.length).map fun j=>.ref (qa j))):=by simp [H2]
   have hT:∀ j,j<ys.length→H2 (qa j)=some (.tup [xs.getD j .non,ys.getD j .non,zs.getD j .non]):=by
    intro j hj
    have e1:¬(s1.heap.objs.size+7+j=s1.heap.objs.size+6):=by omega
    have e2:s1.heap.objs.size+7≤s1.heap.objs.size+7+j∧s1.heap.objs.size+7+j<s1.heap.objs.size+7+ys.length:=by omega
    have e3:s1.heap.objs.size+7+j-(s1.heap.objs.size+7)=j:=by omega
    simp only [H2,qa,if_neg e1,dif_pos e2,e3]
   have hO:∀ b,b<s1.heap.objs.size→H2 b=H1 b:=by
    intro b hb
    have hb:(b:Nat)<s1.heap.objs.size:=hb
    have e1:¬(b=s1.heap.objs.size+6):=by omega
    have e2:¬(s1.heap.objs.size+7≤b∧b<s1.heap.objs.size+7+ys.length):=by omega
    simp only [H2,if_neg e1,dif_neg e2]
   have hS:aG H1 H2:=by
    intro b u e
    have:b<s1.heap.objs.size:=by
     apply Classical.byContradiction
     intro hn
     rw [hfr b (Nat.le_of_not_lt hn)] at e
     cases e
    rw [hO b this];exact e
   have hN:∀ b u,H2 b=some u→H1 b=some u∨b=s1.heap.objs.size+6∨∃ j,j<ys.length∧b=qa j:=by
    intro b u e
    by_cases e1:b=s1.heap.objs.size+6
    ·
     exact .inr (.inl e1)
    ·
     by_cases e2:s1.heap.objs.size+7≤b∧b<s1.heap.objs.size+7+ys.length
     ·
      obtain ⟨m,hm⟩ : ∃ m:Nat,b=s1.heap.objs.size+7+m:=Nat.exists_eq_add_of_le e2.1
      subst hm
      have e4:=e2.2
      exact .inr (.inr ⟨m,Nat.lt_of_add_lt_add_left e4,rfl⟩)
     ·
      left
      simpa only [H2,if_neg e1,dif_neg e2] using e
   refine ⟨.ref (s1.heap.objs.size+6),H2,I1.lays (t':=s1.toks) (H':=H2) (fun b u e=>q4 b u e) hS hO ?_,rfl,?_⟩
   ·
    intro b u hb e
    rcases hN b u e with e1 | e1 | ⟨j,hj,e1⟩
    ·
     rw [hb] at e1;cases e1
    ·
     subst e1
     rw [hL] at e
     cases e
     refine ⟨by simp;omega,acc'.toList,c',?_,by simpa using q1⟩
     rw [q2,←l2]
     clear q2 q3 hL hT hN hS hO
     generalize List.range ys.length=rs
     induction rs with
     | nil=>exact .nil
     | cons r rs ih=>exact .cons rfl ih
    ·
     subst e1
     rw [hT j hj] at e
     cases e
     have gx:xs[j]?=some (xs.getD j .non):=by rw [List.getD_eq_getElem?_getD,List.getElem?_eq_getElem (show j<xs.length by omega)];rfl
     have gy:ys[j]?=some (ys.getD j .non):=by rw [List.getD_eq_getElem?_getD,List.getElem?_eq_getElem (show j<ys.length by omega)];rfl
     have gz:zs[j]?=some (zs.getD j .non):=by rw [List.getD_eq_getElem?_getD,List.getElem?_eq_getElem (show j<zs.length by omega)];rfl
     obtain ⟨w1,hw1,rw1⟩:=v1.get gx
     obtain ⟨w2,hw2,rw2⟩:=v2.get gy
     obtain ⟨w3,hw3,rw3⟩:=v3.get gz
     refine ⟨by simp [PySem.sizeLine_eq],[w1,w2,w3],.cons rw1 (.cons rw2 (.cons rw3 .nil)),⟨_,q3 j w1 w2 w3 (by omega) (by simpa using hw1) (by simpa using hw2) (by simpa using hw3),rfl,_,rfl⟩⟩
   ·
    refine q _ qa H2 hS (hfr _ (by omega)) (fun j=>hfr _ (by show s1.heap.objs.size≤s1.heap.objs.size+7+j;omega)) (fun j=>by show s1.heap.objs.size+7+j≠s1.heap.objs.size+6;omega) hL ?_ hN
    intro j x' y' z' ex ey ez
    have hj:j<ys.length:=by
     rcases Nat.lt_or_ge j ys.length with h | h
     ·
      exact h
     ·
      rw [List.getElem?_eq_none h] at ey;cases ey
    rw [hT j hj]
    simp [List.getD_eq_getElem?_getD,ex,ey,ez]
end
end L2
end
section
set_option Elab.async false
set_option linter.all false
set_option maxRecDepth 100000
namespace Ew
open PySem PySem.Spec L2
theorem jd {H:Hp}:∀ {ds:List D} {vs:List V},ds.length=vs.length→(∀ (j:Nat) d v,ds[j]?=some d→vs[j]?=some v→Rep H d v)→au H ds vs
 | [],[],_,_=>.nil
 | [],_::_,h,_=>by cases h
 | _::_,[],h,_=>by cases h
 | d::ds,v::vs,h,g=>.cons (g 0 d v rfl rfl) (jd (by simpa using h) fun j d' v' e1 e2=>g (j+1) d' v' (by simpa using e1) (by simpa using e2))
def je (xs ys zs:List D):List D:=List.zipWith (fun x p=>.tup [x,p.1,p.2]) xs (ys.zip zs)
def gq (fa:DSt→Option (List R)):FE:=fun δ=>(fa δ).bind fun rs=>match rs with
 | [r1,r2,r3]=>match r1.view,r2.view,r3.view with
  | .lst xs,.lst ys,.lst zs=>if xs.length=ys.length+1∧zs.length=ys.length then some (.fr (je xs ys zs)) else none
  | _,_,_=>none
 | _=>none
theorem View.sq {K:PySem.W.Frag} {Hs H:Hp} (s:aG Hs H) {ds:List D} {v:V} (h:View Hs H (.lst ds) v):∃ a vs,v=.ref a∧SqL K H a vs∧au Hs ds vs:=by
 rcases h with h | ⟨ds',a,vs,e,e2,h1,h2⟩
 ·
  unfold Rep at h
  obtain ⟨a,vs,e,h1,h2⟩:=h
  exact ⟨a,vs,e,.of (s _ _ h1),h2⟩
 ·
  cases e
  exact ⟨a,vs,e2,.of h1,h2⟩
section
variable {X:Cx} {a b c:Expr} {fa:DSt→Option (List R)} {p1 p2 pos1 pos2:Pos}
set_option maxHeartbeats 1000000 in
theorem nU (hc:X.calm=true) (ha:DA X [a,b,c] fa) (hg:Gl X "list") (hm:X.mg "list" = none) (hg2:Gl X "zip") (hm2:X.mg "zip" = none)
  (hs:starEach [a,b,c] X.env=(false,eval a X.env)::starEach [b,c] X.env:=by rfl) (hpl:(backTo pos2 (starEach [b,c] X.env)).any (·.1)=false:=by rfl)
  (hs2:starEach [.Call (.Name "zip" p2) [a,b,c] [] pos2] X.env=[(false,eval (.Call (.Name "zip" p2) [a,b,c] [] pos2) X.env)]:=by rfl) :
  DE X (.Call (.Name "list" p1) [.Call (.Name "zip" p2) [a,b,c] [] pos2] [] pos1) (gq fa):=.mk <| (nT hc ha.go hg hm hg2 hm2 hs hpl hs2).weak fun σ H Q ⟨Hs,δ,r,S,En,e,K⟩=>by
 unfold gq at e
 cases ef:fa δ with
 | none=>rw [ef] at e;cases e
 | some rs=>
  rw [ef] at e
  refine ⟨Hs,δ,rs,S,En,ef,fun vs Hs1 H1 W1 R1=>?_⟩
  match rs,e,R1 with
  | [r1,r2,r3],e,⟨v1,t1,ev1,q1,⟨v2,t2,ev2,q2,⟨v3,t3,ev3,q3,q4⟩⟩⟩=>
   have q4:t3=[]:=q4
   subst q4 ev3 ev2 ev1
   replace e:(match r1.view,r2.view,r3.view with
    | .lst xs,.lst ys,.lst zs=>if xs.length=ys.length+1∧zs.length=ys.length then some (R.fr (je xs ys zs)) else none
    | _,_,_=>none)=some r:=e
   have w1:=q1.view
   have w2:=q2.view
   have w3:=q3.view
   match r1.view,r2.view,r3.view,e,w1,w2,w3 with
   | .lst xs,.lst ys,.lst zs,e,w1,w2,w3=>
    by_cases hl:xs.length=ys.length+1∧zs.length=ys.length
    ·
     replace e:(if xs.length=ys.length+1∧zs.length=ys.length then some (R.fr (je xs ys zs)) else none)=some r:=e
     rw [if_pos hl] at e
     cases e
     obtain ⟨a1,us1,rfl,s1,p1⟩:=w1.sq (K:=X.K) W1.sub
     obtain ⟨a2,us2,rfl,s2,p2⟩:=w2.sq (K:=X.K) W1.sub
     obtain ⟨a3,us3,rfl,s3,p3⟩:=w3.sq (K:=X.K) W1.sub
     have n1:=p1.length
     have n2:=p2.length
     have n3:=p3.length
     refine ⟨a1,a2,a3,us1,us2,us3,rfl,s1,s2,s3,by omega,by omega,?_⟩
     intro l q H' hS hl0 hq hql hL hT hN
     classical
     let Hs2:Hp:=fun b=>if ∃ j,j<us2.length∧b=q j then H' b else Hs1 b
     have hsub:aG Hs2 H':=by
      intro b o e
      by_cases hb:∃ j,j<us2.length∧b=q j
      ·
       simpa only [Hs2,if_pos hb] using e
      ·
       simp only [Hs2,if_neg hb] at e
       exact hS _ _ (W1.sub _ _ e)
     have hbase:aG Hs1 Hs2:=by
      intro b o e
      by_cases hb:∃ j,j<us2.length∧b=q j
      ·
       obtain ⟨j,hj,rfl⟩:=hb
       have:=W1.sub _ _ e
       rw [hq j] at this;cases this
      ·
       simp only [Hs2,if_neg hb];exact e
     have W2:Wd H1 Hs1 Hs2 H':=⟨hS,hsub,hbase,by
      intro b o e
      by_cases hb:∃ j,j<us2.length∧b=q j
      ·
       obtain ⟨j,hj,rfl⟩:=hb
       exact .inr (hq j)
      ·
       simp only [Hs2,if_neg hb] at e
       exact .inl e⟩
     refine K _ Hs2 H' (W1.trans W2) ⟨l,_,rfl,W1.keep.free hl0,?_,hL,?_⟩
     ·
      have hb:¬∃ j,j<us2.length∧l=q j:=fun ⟨j,_,e⟩=>hql j e.symm
      simp only [Hs2,if_neg hb]
      exact W1.sub.free hl0
     ·
      refine jd (by simp [je];omega) ?_
      intro j d v ed ev
      have hj:j<us2.length:=by
       rw [List.getElem?_map] at ev
       rcases Nat.lt_or_ge j us2.length with h | h
       ·
        exact h
       ·
        rw [List.getElem?_eq_none (by simpa using h)] at ev;cases ev
      have ev':v=.ref (q j):=by
       rw [List.getElem?_map,List.getElem?_range hj] at ev
       cases ev;rfl
      subst ev'
      have l1:j<xs.length:=by omega
      have l2:j<ys.length:=by omega
      have l3:j<zs.length:=by omega
      have m1:j<us1.length:=by omega
      have m3:j<us3.length:=by omega
      have ed':d=.tup [xs[j],ys[j],zs[j]]:=by
       unfold je at ed
       rw [List.getElem?_zipWith] at ed
       simp [List.getElem?_eq_getElem l1,List.getElem?_zip_eq_some,l2,l3] at ed
       rw [List.getElem?_eq_getElem (by simp;omega)] at ed
       simp at ed
       exact ed.symm
      subst ed'
      unfold Rep
      refine ⟨q j,[us1[j],us2[j],us3[j]],rfl,?_,.cons ?_ (.cons ?_ (.cons ?_ .nil))⟩
      ·
       have hb:∃ k,k<us2.length∧q j=q k:=⟨j,hj,rfl⟩
       simp only [Hs2,if_pos hb]
       exact hT j _ _ _ (List.getElem?_eq_getElem m1) (List.getElem?_eq_getElem hj) (List.getElem?_eq_getElem m3)
      ·
       obtain ⟨u,hu,ru⟩:=p1.get (List.getElem?_eq_getElem l1)
       rw [List.getElem?_eq_getElem m1] at hu;cases hu
       exact Rep.mono hbase _ ru
      ·
       obtain ⟨u,hu,ru⟩:=p2.get (List.getElem?_eq_getElem l2)
       rw [List.getElem?_eq_getElem hj] at hu;cases hu
       exact Rep.mono hbase _ ru
      ·
       obtain ⟨u,hu,ru⟩:=p3.get (List.getElem?_eq_getElem l3)
       rw [List.getElem?_eq_getElem m3] at hu;cases hu
       exact Rep.mono hbase _ ru
    ·
     replace e:(if xs.length=ys.length+1∧zs.length=ys.length then some (R.fr (je xs ys zs)) else none)=some r:=e
     rw [if_neg hl] at e;cases e
end
end Ew
end
section
set_option Elab.async false
set_option linter.all false
set_option maxRecDepth 100000
namespace Ew
open PySem PySem.Spec L2
open Classical in
noncomputable def fH (K:PySem.W.Frag) (i:Nat) (δ:DSt):Option (List Int):=match δ[i]? with
 | some (some (.scr K' ns))=>if K'=K then some ns else none
 | _=>none
theorem iS {K:PySem.W.Frag} {i:Nat} {δ:DSt} {ns:List Int} (h:fH K i δ=some ns):δ[i]?=some (some (.scr K ns)):=by
 unfold fH at h
 split at h
 ·
  rename_i K' ns' e
  split at h
  ·
   rename_i ek
   cases h
   rw [e,ek]
  ·
   cases h
 ·
  cases h
noncomputable def dlenS (K:PySem.W.Frag) (i:Nat):FE:=fun δ=>(fH K i δ).map fun ns=>.sh (.int ns.length)
noncomputable def dixS (K:PySem.W.Frag) (i:Nat) (f:FE):FE:=fun δ=>(f δ).bind fun r=>match r with
 | .sh (.int k)=>(fH K i δ).bind fun ns=>(atI ns k).map fun n=>.sh (.int n)
 | _=>none
noncomputable def fq (K:PySem.W.Frag) (i:Nat) (m:List Int→Int→Option Int) (f:FE):FE:=fun δ=>(f δ).bind fun r=>match r with
 | .sh (.int k)=>(fH K i δ).bind fun ns=>(m ns k).map fun n=>.sh (.int n)
 | _=>none
def spS (K:PySem.W.Frag) (m:List Int→Int→Option Int):Sp:=fun vs H Q _=>∃ a k ns n,vs=[.ref a,.int k]∧SqL K H a (ns.map V.int)∧m ns k=some n∧∀ Hs H',aG H H'→Wd H H Hs H'→Q (.int n) H'
def spL (K:PySem.W.Frag) (m:List Int→Option D):Sp:=fun vs H Q _=>∃ a ns d,vs=[.ref a]∧SqL K H a (ns.map V.int)∧m ns=some d∧∀ v Hs' H',Wd H H Hs' H'→Rep Hs' d v→Q v H'
noncomputable def runS (k:Nat) (K:PySem.W.Frag) (F:FS) (ns:List Int) (n:Int):Option Int:=match F (some (.scr K ns)::some (.sh (.int n))::List.replicate (k-2) none) with
 | some (.rt (.sh (.int j)))=>some j
 | _=>none
noncomputable def runL (k:Nat) (K:PySem.W.Frag) (F:FS) (ns:List Int):Option D:=match F (some (.scr K ns)::List.replicate (k-1) none) with
 | some (.rt r)=>if r.isBw=true then none else some r.view
 | _=>none
theorem atI_map {α β:Type} {f:α→β} {xs:List α} {k:Int} {x:α} (h:atI xs k=some x):atI (xs.map f) k=some (f x):=by
 unfold atI at h ⊢
 simp only [List.length_map] at h ⊢
 cases e:ixN xs.length k with
 | none=>rw [e] at h;cases h
 | some j=>
  rw [e] at h
  replace h:xs[j]?=some x:=h
  show (xs.map f)[j]?=some (f x)
  rw [List.getElem?_map,h];rfl
section
variable {X:Cx} {e:Expr} {x:Str} {p pos:Pos} {i:Nat} {f:FE}
theorem de_lenS (h:PE X (.Name x p) (eX i)) (hg:Gl X "len") (hm:X.mg "len" = none) (hs:starEach [.Name x p] X.env=[(false,eval (.Name x p) X.env)]:=by rfl) {p0:Pos} :
  DE X (.Call (.Name "len" p0) [.Name x p] [] pos) (dlenS X.K i):=.mk <| (hG e7 hg hm PySem.boot_len (cz h eZ hs) (he:=hs)).weak fun σ H Q ⟨Hs,δ,r,S,En,e,K⟩=>by
 unfold dlenS at e
 cases es:fH X.K i δ with
 | none=>rw [es] at e;cases e
 | some ns=>
  rw [es] at e
  cases e
  obtain ⟨v,hv,a,ev,hq⟩:=En i _ (iS es)
  refine ⟨v,hv,a,ns.map V.int,by rw [ev],.inl (fW S hq),?_⟩
  rw [List.length_map]
  exact K _ Hs H (.refl S) (by show Rep Hs _ _;unfold Rep;rfl)
theorem de_ixS (h:PE X (.Name x p) (eX i)) (hb:DE X e f) (hs:jS e):DE X (.Subscript (.Name x p) e pos) (dixS X.K i f):=.mk <| (pe_ix ix_list h hb.go hs).weak fun σ H Q ⟨Hs,δ,r,S,En,e,K⟩=>by
 unfold dixS at e
 cases ef:f δ with
 | none=>rw [ef] at e;cases e
 | some rf=>
  rw [ef] at e
  match rf,e with
  | .sh (.int k),e=>
   replace e:((fH X.K i δ).bind fun ns=>(atI ns k).map fun n=>R.sh (.int n))=some r:=e
   cases es:fH X.K i δ with
   | none=>rw [es] at e;cases e
   | some ns=>
    rw [es] at e
    replace e:((atI ns k).map fun n=>R.sh (.int n))=some r:=e
    cases ea:atI ns k with
    | none=>rw [ea] at e;cases e
    | some n=>
     rw [ea] at e
     cases e
     obtain ⟨v,hv,a,ev,hq⟩:=En i _ (iS es)
     refine ⟨v,hv,Hs,δ,.sh (.int k),S,En,ef,fun y Hs1 H1 W1 R1=>?_⟩
     have R1:Rep Hs1 (.int k) y:=R1
     unfold Rep at R1
     exact ⟨a,ns.map V.int,k,.int n,ev,R1,fW (S.trans W1.keep) hq,atI_map ea,K _ Hs1 H1 W1 (by show Rep Hs1 _ _;unfold Rep;rfl)⟩
theorem de_callS {y qual:Str} {st:Stmt} {ps:List Str} {fa:Addr} {fd:FuncData} {k:Nat} {m:List Int→Int→Option Int} {py:Pos} (d:Df X.K X.mg y qual st ps fa fd) (G:dM X.prog X.w X.K X.mg X.base CX0 k fa fd ps (spS X.K m)) (hr:bq k X.A)
  (h:PE X (.Name x p) (eX i)) (hb:DE X e f)
  (hg:Gl X y:=by rfl) (hdb:(y==("__debug__" : Str))=false:=by decide) (he:starEach [.Name x p,e] X.env=(false,eval (.Name x p) X.env)::starEach [e] X.env:=by exact bF rfl) (hs:starEach [e] X.env=[(false,eval e X.env)]:=by exact bF rfl) (hpl:(backTo pos (starEach [e] X.env)).any (·.1)=false:=by rfl) :
  DE X (.Call (.Name y py) [.Name x p,e] [] pos) (fq X.K i m f):=.mk <| (lZ (E:=E0) G hr hg d.mgx d.fn.kp d.bd .nil lC (cz h (cz hb.go eZ hs) he) hdb he hpl).weak fun σ H Q ⟨Hs,δ,r,S,En,e,K⟩=>by
 unfold fq at e
 cases ef:f δ with
 | none=>rw [ef] at e;cases e
 | some rf=>
  rw [ef] at e
  match rf,e with
  | .sh (.int k),e=>
   replace e:((fH X.K i δ).bind fun ns=>(m ns k).map fun n=>R.sh (.int n))=some r:=e
   cases es:fH X.K i δ with
   | none=>rw [es] at e;cases e
   | some ns=>
    rw [es] at e
    replace e:((m ns k).map fun n=>R.sh (.int n))=some r:=e
    cases ea:m ns k with
    | none=>rw [ea] at e;cases e
    | some n=>
     rw [ea] at e
     cases e
     obtain ⟨v,hv,a,ev,hq⟩:=En i _ (iS es)
     refine ⟨v,hv,Hs,δ,.sh (.int k),S,En,ef,fun y Hs1 H1 W1 R1=>?_⟩
     have R1:Rep Hs1 (.int k) y:=R1
     unfold Rep at R1
     refine ⟨a,k,ns,n,by rw [ev,R1];rfl,fW (S.trans W1.keep) hq,ea,fun Hs2 H2 s2 W2=>?_⟩
     exact K _ Hs1 H2 (W1.trans ⟨s2,W1.sub.trans s2,.refl _,fun _ _ e=>.inl e⟩) (by show Rep Hs1 _ _;unfold Rep;rfl)
def sdrop (f:FE):FS:=fun δ=>(f δ).bind fun _=>some (.nx δ)
theorem ds_drop (h:DE X e f) (hs:swapsWith e none pos.line X.env=pure false:=by rfl):DS X (.Expr e pos) (sdrop f):=.mk fun H0 Hs0=>(g9 h.go hs).weak fun D σ H ⟨Hs,δ,res,W,S,e,P⟩=>by
 unfold sdrop at e
 cases ef:f δ with
 | none=>rw [ef] at e;cases e
 | some r=>
  rw [ef] at e
  cases e
  exact ⟨Hs,δ,r,W.sub,S.ent,ef,fun v Hs1 H1 W1 R1=>P σ Hs1 H1 (W.trans W1) (S.mono W1)⟩
end
theorem st_scr {K:PySem.W.Frag} {H:Hp} {N:List Str} {a:Addr} {ns:List Int} {ds:List D} {vs:List V} (h:SqL K H a (ns.map V.int)) (r:au H ds vs) :
  StR H H H (some (.scr K ns)::(ds.map (fun d=>some (E.sh d))++List.replicate (N.length-(ds.length+1)) none)) (L2.start N (.ref a::vs)):=by
 have get:∀ (i:Nat) (e:E),(some (.scr K ns)::(ds.map (fun d=>some (E.sh d))++List.replicate (N.length-(ds.length+1)) none))[i]?=some (some e)→(i=0∧e=.scr K ns)∨∃ j d,i=j+1∧ds[j]?=some d∧e=E.sh d:=fun i e h=>by
  cases i with
  | zero=>simp at h;exact .inl ⟨rfl,h.symm⟩
  | succ i=>
   right
   rw [List.getElem?_cons_succ] at h
   by_cases hi:i<ds.length
   ·
    rw [List.getElem?_append_left (by simpa using hi),List.getElem?_map] at h
    cases q:ds[i]? with
    | none=>rw [q] at h;cases h
    | some d=>rw [q] at h;cases h;exact ⟨i,d,rfl,q,rfl⟩
   ·
    rw [List.getElem?_append_right (by simpa using hi),List.getElem?_replicate] at h
    split at h <;> cases h
 have nf:∀ (i:Nat) (e:E) (v:V) (b:Addr),(some (.scr K ns)::(ds.map (fun d=>some (E.sh d))++List.replicate (N.length-(ds.length+1)) none))[i]?=some (some e)→¬Fp H e v b:=fun i e v b h f=>by
  rcases get i e h with ⟨_,rfl⟩ | ⟨_,d,_,_,rfl⟩ <;> cases f
 refine ⟨fun i e h'=>?_,?_,fun i e v b h _ f=>(nf i e v b h f).elim,fun i j e e' v v' b _ h _ _ _ f=>(nf i e v b h f).elim⟩
 ·
  rcases get i e h' with ⟨rfl,rfl⟩ | ⟨j,d,rfl,hd,rfl⟩
  ·
   exact ⟨.ref a,by unfold L2.start;simp,a,rfl,h⟩
  ·
   obtain ⟨v,hv,rv⟩:=r.get hd
   refine ⟨v,?_,rv⟩
   unfold L2.start
   have hi:j<vs.length:=(List.getElem?_eq_some_iff.mp hv).1
   rw [List.getElem?_append_left (by simpa using hi),List.getElem?_map,List.getElem?_cons_succ,hv]
   rfl
 ·
  unfold L2.start
  simp [r.length]
section
variable {P:Program} {w:World} {K:PySem.W.Frag} {mg:Str→Option Value} {base:Heap}
theorem fn_S {x qual:Str} {st:Stmt} {f:Addr} {fd:FuncData} {N:List Str} {p1 p2:Str} {k:Nat} {F:FS} (F0:Fun K x qual st f fd) (S:dN N [p1,p2] (ap st)) (hN:2≤N.length)
  (h:∀ (cdv:Value) (A:Around) (outer:List Env) (s:Shared) (H:Hp) (E:XK),bq k (A.deeper (PyProof.Rows.envOfC qual (ap st) s.heap.objs.size f cdv))→DSs (jr CX0 P w K mg base N qual (ap st) f cdv A outer s H E).nox (aP st) F) :
  dM P w K mg base CX0 (k+1) f fd [p1,p2] (spS K (runS N.length K F)):=by
 refine F0.ok S (fun vs H Q E hs=>?_) (fun cdv A outer s H vs Q E hr hs=>?_)
 ·
  obtain ⟨a,k,ns,n,e,_⟩:=hs;rw [e];rfl
 ·
  obtain ⟨a,j,ns,n,rfl,hq,em,post⟩:=hs
  refine ⟨_,(h cdv A outer s H E hr).go H H,?_⟩
  unfold runS at em
  cases eF:F (some (.scr K ns)::some (.sh (.int j))::List.replicate (N.length-2) none) with
  | none=>rw [eF] at em;cases em
  | some res=>
   rw [eF] at em
   have St:=st_scr (N:=N) (K:=K) (H:=H) (ds:=[.int j]) (vs:=[.int j]) hq (.cons (by unfold Rep;rfl) .nil)
   refine ⟨H,_,res,.refl (.refl _),St,eF,?_⟩
   match res,em with
   | .rt (.sh (.int j2)),em=>
    cases em
    intro v Hs1 H1 W1 R1
    have R1:Rep Hs1 (.int n) v:=R1
    unfold Rep at R1
    rw [R1]
    exact post Hs1 H1 W1.keep W1
theorem fn_L {x qual:Str} {st:Stmt} {f:Addr} {fd:FuncData} {N:List Str} {p1:Str} {k:Nat} {F:FS} (F0:Fun K x qual st f fd) (S:dN N [p1] (ap st)) (hN:1≤N.length)
  (h:∀ (cdv:Value) (A:Around) (outer:List Env) (s:Shared) (H:Hp) (E:XK),bq k (A.deeper (PyProof.Rows.envOfC qual (ap st) s.heap.objs.size f cdv))→DSs (jr CX0 P w K mg base N qual (ap st) f cdv A outer s H E).nox (aP st) F) :
  dM P w K mg base CX0 (k+1) f fd [p1] (spL K (runL N.length K F)):=by
 refine F0.ok S (fun vs H Q E hs=>?_) (fun cdv A outer s H vs Q E hr hs=>?_)
 ·
  obtain ⟨a,ns,n,e,_⟩:=hs;rw [e];rfl
 ·
  obtain ⟨a,ns,d,rfl,hq,em,post⟩:=hs
  refine ⟨_,(h cdv A outer s H E hr).go H H,?_⟩
  unfold runL at em
  cases eF:F (some (.scr K ns)::List.replicate (N.length-1) none) with
  | none=>rw [eF] at em;cases em
  | some res=>
   rw [eF] at em
   have St:=st_scr (N:=N) (K:=K) (H:=H) (ds:=[]) (vs:=[]) hq .nil
   refine ⟨H,_,res,.refl (.refl _),St,eF,?_⟩
   cases res with
   | nx δ=>cases em
   | bk δ=>cases em
   | ct δ=>cases em
   | rn d=>cases em
   | rt r1=>
    replace em:(if r1.isBw=true then none else some r1.view)=some d:=em
    by_cases hb:r1.isBw=true
    ·
     rw [if_pos hb] at em;cases em
    ·
     rw [if_neg hb] at em
     cases em
     intro v Hs1 H1 W1 R1
     obtain ⟨Hs2,q,W2⟩:=R1.share W1 (fun ds z=>hb (by rw [z];rfl))
     exact post v Hs2 H1 W2 q
end
end Ew
end
section
set_option linter.all false
namespace Ew
open PySem PySem.Spec L2
open Classical in
noncomputable def unif {α:Type} (f:Addr→Option α):Option α:=if h:∃ a,∀ p,f p=some a then some h.choose else none
theorem unif_all {α:Type} {f:Addr→Option α} {a:α} (h:unif f=some a):∀ p,f p=some a:=by
 unfold unif at h
 split at h
 ·
  rename_i e
  cases h
  exact e.choose_spec
 ·
  cases h
theorem j6 {α:Type} {f:Addr→Option α} {a:α} (h:∀ p,f p=some a):unif f=some a:=by
 unfold unif
 rw [dif_pos ⟨a,h⟩]
 have e:∃ a,∀ p,f p=some a:=⟨a,h⟩
 have:=e.choose_spec 0
 rw [h 0] at this
 exact this.symm
def spLaw (K:PySem.W.Frag):Sp:=fun vs H Q _=>∃ (a:Addr) (ns:List Int),vs=[.ref a]∧ns.length≤63∧SqL K H a (ns.map V.int)∧∀ H',aG H H'→Q (.bl true) H'
theorem spLaw_imp {K:PySem.W.Frag} {m:List Int→Option D} (h:∀ ns:List Int,ns.length≤63→m ns=some (.bl true)):∀ vs H Q E,spLaw K vs H Q E→spL K m vs H Q E:=by
 rintro vs H Q E ⟨a,ns,rfl,hl,hq,k⟩
 refine ⟨a,ns,.bl true,rfl,hq,h ns hl,fun v Hs' H' W r=>?_⟩
 unfold Rep at r
 rw [r]
 exact k H' W.keep
theorem ip {K:PySem.W.Frag} {C:Addr}:PySem.W.kitOne K (.ref C) (.ref C)=some true:=by
 unfold PySem.W.kitOne
 rw [if_pos (by simp)]
theorem kit_sub {K:PySem.W.Frag} {C D:Addr} {oc:Value} {od:Option Addr} {cd:ClassData} {sl:Array (Option Value)} {b:Bool} (h1:K.lookup D=some ⟨oc,od,.cls cd,sl⟩) (h2:PySem.W.typeIn K (.ref D)=some (.type "type"))
  (h3:PySem.W.subIn K (.ref C) (.ref D)=some b) (hn:C≠D):PySem.W.kitOne K (.ref C) (.ref D)=some b:=by
 unfold PySem.W.kitOne
 rw [if_neg (by simpa using hn)]
 show (if ((PySem.W.clsIn K D).isSome&&PySem.W.typeIn K (.ref D)==some (.type "type"))=true then PySem.W.subIn K (.ref C) (.ref D) else none)=some b
 have hc:PySem.W.clsIn K D=some cd:=by
  unfold PySem.W.clsIn
  rw [show List.lookup D K=_ from h1]
 rw [hc,h2]
 simpa using h3
theorem kk_int (K:PySem.W.Frag):∀ d b,dX d=some b→∃ t,TyD K d t∧PySem.W.kitOne K t (.type "int")=some b:=fun d b h=>match d,h with
 | .non,h=>⟨_,.non,by cases h;with_unfolding_all rfl⟩
 | .bl _,h=>⟨_,.bl _,by cases h;with_unfolding_all rfl⟩
 | .int _,h=>⟨_,.int _,by cases h;with_unfolding_all rfl⟩
 | .str _,h=>⟨_,.str _,by cases h;with_unfolding_all rfl⟩
 | .lst _,h=>⟨_,.lst _,by cases h;with_unfolding_all rfl⟩
 | .tup _,h=>⟨_,.tup _,by cases h;with_unfolding_all rfl⟩
 | .obj _ _,h=>by cases h
theorem kk_bool (K:PySem.W.Frag):∀ d b,is_bool d=some b→∃ t,TyD K d t∧PySem.W.kitOne K t (.type "bool")=some b:=fun d b h=>match d,h with
 | .non,h=>⟨_,.non,by cases h;with_unfolding_all rfl⟩
 | .bl _,h=>⟨_,.bl _,by cases h;with_unfolding_all rfl⟩
 | .int _,h=>⟨_,.int _,by cases h;with_unfolding_all rfl⟩
 | .str _,h=>⟨_,.str _,by cases h;with_unfolding_all rfl⟩
 | .lst _,h=>⟨_,.lst _,by cases h;with_unfolding_all rfl⟩
 | .tup _,h=>⟨_,.tup _,by cases h;with_unfolding_all rfl⟩
 | .obj _ _,h=>by cases h
theorem kk_list (K:PySem.W.Frag):∀ d b,fj d=some b→∃ t,TyD K d t∧PySem.W.kitOne K t (.type "list")=some b:=fun d b h=>match d,h with
 | .non,h=>⟨_,.non,by cases h;with_unfolding_all rfl⟩
 | .bl _,h=>⟨_,.bl _,by cases h;with_unfolding_all rfl⟩
 | .int _,h=>⟨_,.int _,by cases h;with_unfolding_all rfl⟩
 | .str _,h=>⟨_,.str _,by cases h;with_unfolding_all rfl⟩
 | .lst _,h=>⟨_,.lst _,by cases h;with_unfolding_all rfl⟩
 | .tup _,h=>⟨_,.tup _,by cases h;with_unfolding_all rfl⟩
 | .obj _ _,h=>by cases h
theorem kk_tuple (K:PySem.W.Frag):∀ d b,ij d=some b→∃ t,TyD K d t∧PySem.W.kitOne K t (.type "tuple")=some b:=fun d b h=>match d,h with
 | .non,h=>⟨_,.non,by cases h;with_unfolding_all rfl⟩
 | .bl _,h=>⟨_,.bl _,by cases h;with_unfolding_all rfl⟩
 | .int _,h=>⟨_,.int _,by cases h;with_unfolding_all rfl⟩
 | .str _,h=>⟨_,.str _,by cases h;with_unfolding_all rfl⟩
 | .lst _,h=>⟨_,.lst _,by cases h;with_unfolding_all rfl⟩
 | .tup _,h=>⟨_,.tup _,by cases h;with_unfolding_all rfl⟩
 | .obj _ _,h=>by cases h
def Fx (K:PySem.W.Frag) (x qual:Str) (st:Stmt) (ps:List Str):Prop:=∃ f fd,PySem.W.nsIn K mainGlobals x=some (some (.ref f))∧Fun K x qual st f fd∧Binds K fd ps []
def FxL (K:PySem.W.Frag) (x qual:Str) (st:Stmt) (p:Str):Prop:=∃ f fd,PySem.W.nsIn K mainGlobals x=some (some (.ref f))∧Fun K x qual st f fd∧Binds K fd [p] []∧∀ (s:Shared) (u:Value),BindsTo s fd ⟨[u],[]⟩ [(p,u)]
def Fm (K:PySem.W.Frag) (C:Addr) (x qual:Str) (st:Stmt) (ps:List Str):Prop:=∃ f fd,PySem.W.findIn K (.ref C) x=some (some (.ref f))∧PySem.W.isFn K (.ref f)=true∧Fun K x qual st f fd∧Binds K fd ps []
section
variable {K:PySem.W.Frag} {C:Addr} {x qual p:Str} {st:Stmt} {ps:List Str} {f:Addr} {oc:Value} {od an:Option Addr} {osl:Array (Option Value)} {kV doc pm cdv ct:Value}
theorem fx_mk (e1:PySem.W.nsIn K mainGlobals x=some (some (.ref f))) (e2:K.lookup f=some ⟨oc,od,.func (PySem.W.fnOf x qual (a0 st) (aP st) (ap st) .none kV doc pm an cdv ct),osl⟩) (e3:PySem.W.codeIn K cdv qual=true) (e4:PySem.W.keepIn K (.ref f)=true)
  (h:∀ (kV doc pm:Value) (an:Option Addr) (cdv ct:Value) (us:List Value),us.length=ps.length→bindArgs (PySem.W.fnOf x qual (a0 st) (aP st) (ap st) .none kV doc pm an cdv ct) ⟨us,[]⟩=pure (ps.zip us)):Fx K x qual st ps:=
 ⟨f,_,e1,iN e2 e3 e4,(iN e2 e3 e4).binds h⟩
theorem fxl_mk (e1:PySem.W.nsIn K mainGlobals x=some (some (.ref f))) (e2:K.lookup f=some ⟨oc,od,.func (PySem.W.fnOf x qual (a0 st) (aP st) (ap st) .none kV doc pm an cdv ct),osl⟩) (e3:PySem.W.codeIn K cdv qual=true) (e4:PySem.W.keepIn K (.ref f)=true)
  (h:∀ (kV doc pm:Value) (an:Option Addr) (cdv ct:Value) (us:List Value),us.length=[p].length→bindArgs (PySem.W.fnOf x qual (a0 st) (aP st) (ap st) .none kV doc pm an cdv ct) ⟨us,[]⟩=pure ([p].zip us)):FxL K x qual st p:=
 ⟨f,_,e1,iN e2 e3 e4,(iN e2 e3 e4).binds h,fun s u=>.of_eq (h _ _ _ _ _ _ [u] rfl)⟩
theorem fm_mk (e1:PySem.W.findIn K (.ref C) x=some (some (.ref f))) (e2:K.lookup f=some ⟨oc,od,.func (PySem.W.fnOf x qual (a0 st) (aP st) (ap st) .none kV doc pm an cdv ct),osl⟩) (e3:PySem.W.codeIn K cdv qual=true) (e4:PySem.W.keepIn K (.ref f)=true) (e5:PySem.W.isFn K (.ref f)=true)
  (h:∀ (kV doc pm:Value) (an:Option Addr) (cdv ct:Value) (us:List Value),us.length=ps.length→bindArgs (PySem.W.fnOf x qual (a0 st) (aP st) (ap st) .none kV doc pm an cdv ct) ⟨us,[]⟩=pure (ps.zip us)):Fm K C x qual st ps:=
 ⟨f,_,e1,e5,iN e2 e3 e4,(iN e2 e3 e4).binds h⟩
end
end Ew
end
section
set_option Elab.async false
set_option linter.all false
set_option maxRecDepth 100000
namespace Ew
open PySem PySem.Spec L2
theorem Rep.tupS {Hs:Hp} {ds:List D} {x:V} (vw:Rep Hs (.tup ds) x):∃ a vs,x=.ref a∧Hs a=some (.tup vs)∧au Hs ds vs:=by
 unfold Rep at vw
 exact vw
section
variable {X:Cx}
def dslT (f:FE) (fl fh:FO):FE:=fun δ=>(f δ).bind fun r=>(fl δ).bind fun lo=>(fh δ).bind fun hi=>match r with
 | .sh (.tup ds)=>if HT.sIx ds.length 0 lo=0∧HT.sIx ds.length ds.length hi=ds.length then none else some (.sh (.tup (cutD ds lo hi)))
 | _=>none
theorem de_slT {e:Expr} {lo hi:Option Expr} {f:FE} {fl fh:FO} {p2 pos:Pos} (he:DE X e f) (hl:DO X lo fl) (hh:DO X hi fh):DE X (.Subscript e (.Slice lo hi none p2) pos) (dslT f fl fh):=.mk <|
 (ng sl_tup he.go hl.go hh.go).weak fun σ H Q ⟨Hs,δ,r,S,En,e,K⟩=>by
  unfold dslT at e
  cases ef:f δ with
  | none=>rw [ef] at e;cases e
  | some rf=>
   cases el:fl δ with
   | none=>rw [ef,el] at e;cases e
   | some lo=>
    cases eh:fh δ with
    | none=>rw [ef,el,eh] at e;cases e
    | some hi=>
     rw [ef,el,eh] at e
     refine ⟨Hs,δ,rf,S,En,ef,fun x Hs1 H1 W1 R1=>⟨Hs1,δ,lo,W1.sub,En.mono W1,el,fun Hs2 H2 W2=>⟨Hs2,δ,hi,W2.sub,En.mono (W1.trans W2),eh,fun Hs3 H3 W3=>?_⟩⟩⟩
     have R3:=(R1.mono W2).mono W3
     cases rf with
     | sh d=>
      cases d with
      | tup ds=>
       replace e:(if HT.sIx ds.length 0 lo=0∧HT.sIx ds.length ds.length hi=ds.length then none else some (R.sh (.tup (cutD ds lo hi))))=some r:=e
       by_cases hc:HT.sIx ds.length 0 lo=0∧HT.sIx ds.length ds.length hi=ds.length
       ·
        rw [if_pos hc] at e;cases e
       ·
        rw [if_neg hc] at e
        cases e
        obtain ⟨a,vs,rfl,h1,h2⟩:=Rep.tupS R3
        have W13:=W1.trans (W2.trans W3)
        refine ⟨a,vs,rfl,.of (W3.sub _ _ h1),by rw [h2.length];exact hc,fun p hp=>K _ (L2.upd Hs3 p (.tup (cutV vs lo hi))) _ (W13.trans (.lay W3.sub hp)) ?_⟩
        show Rep _ (.tup _) _
        unfold Rep
        exact ⟨p,_,rfl,aA,au.mono (.new (W3.sub.free hp)) _ (nD lo hi h2)⟩
      | _=>cases e
     | _=>cases e
def sput (i:Nat) (f g:FE):FS:=fun δ=>match δ[i]? with
 | some (some (.ow ds))=>(g δ).bind fun r=>match r with
  | .sh d=>(f δ).bind fun k=>match k with
   | .sh (.int n)=>(ixN ds.length n).bind fun j=>some (.nx (δ.set i (some (.ow (ds.set j d)))))
   | _=>none
  | _=>none
 | _=>none
theorem ds_put {i:Nat} {x:Str} {xp tp pos:Pos} {ix e:Expr} {f g:FE} (hx:PE X (.Name x xp) (eX i)) (hi:DE X ix f) (he:DE X e g)
  (hs:swapsWithSole [.Subscript (.Name x xp) ix tp] e pos.line X.env=pure false:=by rfl) (hw:swappedStores [.Subscript (.Name x xp) ix tp] e X.env=pure none:=by rfl)
  (h1:(assignEach [.Subscript (.Name x xp) ix tp] X.env).map (·.2)=[assign (.Subscript (.Name x xp) ix tp) X.env]:=by rfl)
  (ha:∀ v,assign (.Subscript (.Name x xp) ix tp) X.env v=(do
   let ov ←holding [v] (eval (.Name x xp) X.env)
   let iv ←holding [v,ov] (eval ix X.env)
   standAt tp
   holding [v,ov,iv] (setItem ov iv v)
   release [v,ov,iv] []):=by intro _;rfl) :
  DS X (.Assign [.Subscript (.Name x xp) ix tp] e pos) (sput i f g):=.mk fun H0 Hs0=>
 (ps_asg he.go (pg_sub hx hi.go set_list ha) hs hw h1).weak fun D σ H ⟨Hs,δ,res,W,S,e,P⟩=>by
  unfold sput at e
  cases q:δ[i]? with
  | none=>rw [q] at e;cases e
  | some o=>
   rw [q] at e
   match o,e with
   | some (.ow ds),e=>
    obtain ⟨v,hv,a,vs,rfl,m,h1,h2⟩:=S.ent i _ q
    cases eg:g δ with
    | none=>simp only [eg] at e;cases e
    | some r=>
     simp only [eg,Option.bind] at e
     refine ⟨Hs,δ,r,W.sub,S.ent,eg,fun y Hs1 H1 W1 R1=>?_⟩
     cases r with
     | sh d=>
      cases ef:f δ with
      | none=>simp only [ef] at e;cases e
      | some k=>
       simp only [ef] at e
       have S1:=S.mono W1
       refine ⟨_,hv,Hs1,δ,k,W1.sub,S1.ent,ef,fun z Hs2 H2 W2 R2=>?_⟩
       cases k with
       | sh kd=>
        cases kd with
        | int n=>
         cases ej:ixN ds.length n with
         | none=>simp only [ej] at e;cases e
         | some j=>
          simp only [ej] at e
          cases e
          have R2:Rep Hs2 (.int n) z:=R2
          unfold Rep at R2
          have W12:=W1.trans W2
          have S2:=S.mono W12
          have Rd:Rep Hs2 d y:=Rep.mono W2.base d R1
          refine ⟨a,vs,n,j,rfl,R2,W12.keep _ _ h1,by rw [h2.length];exact ej,?_⟩
          obtain ⟨W3,S3⟩:=S2.upd (W.trans W12) q hv (W12.keep _ _ h1) (W12.stay h1 m) (au.set j Rd (au.mono W12.base _ h2))
          exact P σ Hs2 _ W3 S3
        | _=>cases e
       | _=>cases e
     | _=>cases e
def kv (i:Nat) (t:DSt→Option Bool) (g:FN):FS:=fun δ=>(t (frz i δ)).bind fun b=>if b=true then (match δ[i]? with
  | some (some (.nw d))=>some (.rn d)
  | _=>none)
 else (g (frz i δ)).bind fun d=>some (.rn d)
theorem ds_retIf {i:Nat} {x:Str} {c b:Expr} {p pos pos':Pos} {t:DSt→Option Bool} {g:FN} (hc:DT X c t) (hx:PE X (.Name x p) (eX i)) (hb:DN X b g) :
  DS X (.Return (some (.IfExp c (.Name x p) b pos')) pos) (kv i t g):=.mk fun H0 Hs0=>(j9 (gZ hc.go hx hb.go)).weak fun D σ H ⟨Hs,δ,res,W,S,e,P⟩=>by
 unfold kv at e
 cases et:t (frz i δ) with
 | none=>rw [et] at e;cases e
 | some k=>
  rw [et] at e
  obtain ⟨Hs1,W1,S1⟩:=S.frz (i:=i) W
  refine ⟨Hs1,_,k,W1.sub,S1.ent,et,fun Hs2 H2 W2=>?_⟩
  have W3:=W2.lend W.sub
  cases k with
  | true=>
   replace e:(match δ[i]? with
    | some (some (.nw d))=>some (Res.rn d)
    | _=>none)=some res:=e
   show (if true=true then eX i σ H2 D.rt else tN g σ H2 D.rt)
   rw [if_pos rfl]
   cases q:δ[i]? with
   | none=>rw [q] at e;cases e
   | some o=>
    cases o with
    | none=>rw [q] at e;cases e
    | some en=>
     rw [q] at e
     cases en with
     | nw d=>
      cases e
      have S3:=S.mono W3
      obtain ⟨v,hv,L,h1,h2⟩:=S3.ent i _ q
      exact ⟨v,hv,P _ Hs H2 L (W.trans W3) h1 fun b hb=>⟨S3.new i _ _ b q hv ⟨L,h1,hb⟩,h2 b hb⟩⟩
     | _=>cases e
  | false=>
   replace e:((g (frz i δ)).bind fun d=>some (Res.rn d))=some res:=e
   show (if false=true then eX i σ H2 D.rt else tN g σ H2 D.rt)
   rw [if_neg Bool.false_ne_true]
   cases eg:g (frz i δ) with
   | none=>rw [eg] at e;cases e
   | some d=>
    rw [eg] at e
    cases e
    have W12:=W1.trans W2
    exact ⟨Hs2,_,d,W2.sub,(S1.mono W2).ent,eg,fun v Hs4 H4 L W4 O n=>P v Hs4 H4 L (W12.trans W4) O fun a ha=>⟨W12.keep.free (n a ha).1,(n a ha).2⟩⟩
def iT (k i:Nat) (g:FN):FS:=fun δ=>(g (frz k δ)).bind fun d=>some (.nx (δ.set i (some (.nw d))))
theorem ds_setNB {k i:Nat} {x:Str} {e:Expr} {g:FN} {pos pos':Pos} (hN:X.N.Nodup) (hi:X.N[i]?=some x) (hx:Loc X.env.scope x) (he:DN X e g) (hs:swapsWith e (some (.Name x pos')) pos.line X.env=pure false:=by rfl)
  (hf:X.fn x=true∨X.env.scope.names.lookup x=some .local:=by first | exact .inl rfl | exact .inr rfl | assumption):DS X (.Assign [.Name x pos'] e pos) (iT k i g):=.mk fun H0 Hs0=>(ps_set hN hi hx he.go hs hf).weak fun D σ H ⟨Hs,δ,res,W,S,e,P⟩=>by
 unfold iT at e
 cases et:g (frz k δ) with
 | none=>rw [et] at e;cases e
 | some d=>
  rw [et] at e
  cases e
  obtain ⟨Hs1,W1,S1⟩:=S.frz (i:=k) W
  refine ⟨Hs1,_,d,W1.sub,S1.ent,et,fun v Hs2 H2 L W2 O n=>?_⟩
  have W3:=W2.lend W.sub
  refine P _ Hs H2 (W.trans W3) (S.put W.keep W3 ⟨L,O,fun a ha=>W.sub.free (n a ha).1⟩ fun b ⟨L',O',hb⟩=>?_)
  rw [Own.uniq _ O' O] at hb
  exact (n b hb).1
def iq (i:Nat) (t:DSt→Option Bool) (g:FN):FS:=fun δ=>(t (frz i δ)).bind fun b=>if b=true then (g (frz i δ)).bind fun d=>some (.rn d)
 else (match δ[i]? with
  | some (some (.nw d))=>some (.rn d)
  | _=>none)
theorem ds_retIf2 {i:Nat} {x:Str} {c b:Expr} {p pos pos':Pos} {t:DSt→Option Bool} {g:FN} (hc:DT X c t) (hx:PE X (.Name x p) (eX i)) (hb:DN X b g) :
  DS X (.Return (some (.IfExp c b (.Name x p) pos')) pos) (iq i t g):=.mk fun H0 Hs0=>(j9 (gZ hc.go hb.go hx)).weak fun D σ H ⟨Hs,δ,res,W,S,e,P⟩=>by
 unfold iq at e
 cases et:t (frz i δ) with
 | none=>rw [et] at e;cases e
 | some k=>
  rw [et] at e
  obtain ⟨Hs1,W1,S1⟩:=S.frz (i:=i) W
  refine ⟨Hs1,_,k,W1.sub,S1.ent,et,fun Hs2 H2 W2=>?_⟩
  have W3:=W2.lend W.sub
  cases k with
  | false=>
   replace e:(match δ[i]? with
    | some (some (.nw d))=>some (Res.rn d)
    | _=>none)=some res:=e
   show (if false=true then tN g σ H2 D.rt else eX i σ H2 D.rt)
   rw [if_neg Bool.false_ne_true]
   cases q:δ[i]? with
   | none=>rw [q] at e;cases e
   | some o=>
    cases o with
    | none=>rw [q] at e;cases e
    | some en=>
     rw [q] at e
     cases en with
     | nw d=>
      cases e
      have S3:=S.mono W3
      obtain ⟨v,hv,L,h1,h2⟩:=S3.ent i _ q
      exact ⟨v,hv,P _ Hs H2 L (W.trans W3) h1 fun b hb=>⟨S3.new i _ _ b q hv ⟨L,h1,hb⟩,h2 b hb⟩⟩
     | _=>cases e
  | true=>
   replace e:((g (frz i δ)).bind fun d=>some (Res.rn d))=some res:=e
   show (if true=true then tN g σ H2 D.rt else eX i σ H2 D.rt)
   rw [if_pos rfl]
   cases eg:g (frz i δ) with
   | none=>rw [eg] at e;cases e
   | some d=>
    rw [eg] at e
    cases e
    have W12:=W1.trans W2
    exact ⟨Hs2,_,d,W2.sub,(S1.mono W2).ent,eg,fun v Hs4 H4 L W4 O n=>P v Hs4 H4 L (W12.trans W4) O fun a ha=>⟨W12.keep.free (n a ha).1,(n a ha).2⟩⟩
@[simp] theorem dslT_e {f:FE} {fl fh:FO} {δ:DSt}:dslT f fl fh δ=(f δ).bind fun r=>(fl δ).bind fun lo=>(fh δ).bind fun hi=>match r with
 | .sh (.tup ds)=>if HT.sIx ds.length 0 lo=0∧HT.sIx ds.length ds.length hi=ds.length then none else some (.sh (.tup (cutD ds lo hi)))
 | _=>none:=rfl
end
end Ew
end
section
namespace Ew
open PySem PySem.Spec L2
section
variable {K:PySem.W.Frag} {C:Addr} {x qual p zx zq:Str} {st st':Stmt} {ps:List Str} {f:Addr} {oc:Value} {od an:Option Addr} {osl:Array (Option Value)} {kV doc pm cdv ct:Value}
theorem fx_mk2 (ex:x=zx) (eq:qual=zq) (es:st=st') (e1:PySem.W.nsIn K mainGlobals x=some (some (.ref f))) (e2:K.lookup f=some ⟨oc,od,.func (PySem.W.fnOf zx zq (a0 st') (aP st') (ap st') .none kV doc pm an cdv ct),osl⟩) (e3:PySem.W.codeIn K cdv qual=true) (e4:PySem.W.keepIn K (.ref f)=true)
  (h:∀ (kV doc pm:Value) (an:Option Addr) (cdv ct:Value) (us:List Value),us.length=ps.length→bindArgs (PySem.W.fnOf x qual (a0 st) (aP st) (ap st) .none kV doc pm an cdv ct) ⟨us,[]⟩=pure (ps.zip us)):Fx K x qual st ps:=by
 subst ex;subst eq;subst es;exact fx_mk e1 e2 e3 e4 h
theorem fxl_mk2 (ex:x=zx) (eq:qual=zq) (es:st=st') (e1:PySem.W.nsIn K mainGlobals x=some (some (.ref f))) (e2:K.lookup f=some ⟨oc,od,.func (PySem.W.fnOf zx zq (a0 st') (aP st') (ap st') .none kV doc pm an cdv ct),osl⟩) (e3:PySem.W.codeIn K cdv qual=true) (e4:PySem.W.keepIn K (.ref f)=true)
  (h:∀ (kV doc pm:Value) (an:Option Addr) (cdv ct:Value) (us:List Value),us.length=[p].length→bindArgs (PySem.W.fnOf x qual (a0 st) (aP st) (ap st) .none kV doc pm an cdv ct) ⟨us,[]⟩=pure ([p].zip us)):FxL K x qual st p:=by
 subst ex;subst eq;subst es;exact fxl_mk e1 e2 e3 e4 h
theorem fm_mk2 (ex:x=zx) (eq:qual=zq) (es:st=st') (e1:PySem.W.findIn K (.ref C) x=some (some (.ref f))) (e2:K.lookup f=some ⟨oc,od,.func (PySem.W.fnOf zx zq (a0 st') (aP st') (ap st') .none kV doc pm an cdv ct),osl⟩) (e3:PySem.W.codeIn K cdv qual=true) (e4:PySem.W.keepIn K (.ref f)=true) (e5:PySem.W.isFn K (.ref f)=true)
  (h:∀ (kV doc pm:Value) (an:Option Addr) (cdv ct:Value) (us:List Value),us.length=ps.length→bindArgs (PySem.W.fnOf x qual (a0 st) (aP st) (ap st) .none kV doc pm an cdv ct) ⟨us,[]⟩=pure (ps.zip us)):Fm K C x qual st ps:=by
 subst ex;subst eq;subst es;exact fm_mk e1 e2 e3 e4 e5 h
end
end Ew
end
section
set_option Elab.async false
set_option linter.all false
set_option maxRecDepth 100000
namespace Ew
open PySem PySem.Spec L2
structure Fb (K:PySem.W.Frag) (x qual:Str) (st:Stmt) (ps:List Str) where
 f:Addr
 fd:FuncData
 fn:Fun K x qual st f fd
 bd:Binds K fd ps []
structure Fd (K:PySem.W.Frag) (mg:Str→Option Value) (x:Str) (st:Stmt) (ps:List Str) extends Fb K x x st ps where
 mgx:mg x=some (.ref f)
structure Md (K:PySem.W.Frag) (C:Addr) (x qual:Str) (st:Stmt) (ps:List Str) extends Fb K x qual st ps where
 mt:Meth K C x f
structure Ni (K:PySem.W.Frag) (C:Addr) (qual:Str) (st:Stmt) (ps:List Str) extends Fb K "__init__" qual st ps where
 mk':Mk K C f
structure Cd (K:PySem.W.Frag) (mg:Str→Option Value) (C:Addr) (x:Str):Prop where
 cls:Cls K C
 g:mg x=some (.ref C)
def Ka (K:PySem.W.Frag) (f:D→Option Bool) (a:Addr):Prop:=∀ d b,f d=some b→∃ t,TyD K d t∧PySem.W.kitOne K t (.ref a)=some b
def pick:List (Addr×Bool)→Addr→Option Bool
  | [],_=>none
  | (a,b)::r,C=>if C=a then some b else pick r C
@[simp] theorem pick_nil (C:Addr):pick [] C=none:=rfl
@[simp] theorem pick_cons (a:Addr) (b:Bool) (r:List (Addr×Bool)) (C:Addr):pick ((a,b)::r) C=if C=a then some b else pick r C:=rfl
def isT (t:List (Addr×Bool)):D→Option Bool
 | .obj C _=>pick t C
 | _=>none
@[simp] theorem isT_obj (t:List (Addr×Bool)) (C:Addr) (fs:List (Str×D)):isT t (.obj C fs)=pick t C:=rfl
section
variable {K:PySem.W.Frag} {a C:Addr} {b:Bool} {t:List (Addr×Bool)}
theorem kx:Ka K (isT []) a:=fun d b h=>by cases d <;> cases h
theorem bb (o:∀ fs,TyD K (.obj C fs) (.ref C)) (k:PySem.W.kitOne K (.ref C) (.ref a)=some b) (r:Ka K (isT t) a):Ka K (isT ((C,b)::t)) a:=fun d b' h=>by
 cases d with
 | obj D fs=>
  replace h:(if D=C then some b else pick t D)=some b':=h
  split at h
  ·
   rename_i e
   cases h
   cases e
   exact ⟨_,o fs,k⟩
  ·
   exact r (.obj D fs) b' h
 | _=>cases h
end
theorem cd_mk {K:PySem.W.Frag} {mg:Str→Option Value} {h:Heap} (KX:K.In h) (G:h.Ns mainGlobals mg) {C:Addr} {x:Str} (e0:PySem.W.nsIn K mainGlobals x=some (some (.ref C))) (e1:PySem.W.plainGet K C Str.empty=true) (e2:PySem.W.hasDictIn K C=true) (e3:PySem.W.plainOver K C=true)
 (e4:PySem.W.findIn K (.ref C) "__setattr__" = some (some (.builtin "object.__setattr__"))):Cd K mg C x:=⟨⟨e1,e2,e3,e4⟩,PySem.W.mg_of KX G e0⟩
theorem ob_mk {K:PySem.W.Frag} {C:Addr} (c:Cls K C) (c2:PySem.W.specialIn K (.builtin "object.__class__") "__get__" = some (some (.builtin "getset_descriptor.__get__"))) (c3:PySem.W.takesIn K (.builtin "object.__class__")=some true)
 (c1:PySem.W.findIn K (.ref C) "__class__" = some (some (.builtin "object.__class__"))) (c4:PySem.W.mroIn K C (.type "object")=some true):∀ fs,TyD K (.obj C fs) (.ref C):=fun fs=>.obj _ c c1 c2 c3 c4
noncomputable def Fd.of {K:PySem.W.Frag} {mg:Str→Option Value} {h:Heap} (KX:K.In h) (G:h.Ns mainGlobals mg) {x:Str} {st:Stmt} {ps:List Str} (e:Fx K x x st ps):Fd K mg x st ps:=
 have e1:=e.choose_spec.choose_spec
 ⟨⟨e.choose,e.choose_spec.choose,e1.2.1,e1.2.2⟩,PySem.W.mg_of KX G e1.1⟩
noncomputable def Md.of {K:PySem.W.Frag} {C:Addr} {x q:Str} {st:Stmt} {ps:List Str} (e:Fm K C x q st ps):Md K C x q st ps:=
 have e1:=e.choose_spec.choose_spec
 ⟨⟨e.choose,e.choose_spec.choose,e1.2.2.1,e1.2.2.2⟩,⟨e1.1,e1.2.1,e1.2.2.1.kp⟩⟩
noncomputable def Ni.of {K:PySem.W.Frag} {C:Addr} {q:Str} {st:Stmt} {ps:List Str} (e:Fm K C "__init__" q st ps) (h1:PySem.W.makesIn K C=true) (h2:PySem.W.keepIn K (.ref C)=true):Ni K C q st ps:=
 have e1:=e.choose_spec.choose_spec
 ⟨⟨e.choose,e.choose_spec.choose,e1.2.2.1,e1.2.2.2⟩,⟨h1,e1.1,e1.2.1,h2⟩⟩
structure Fl' (K:PySem.W.Frag) (mg:Str→Option Value) (st:Stmt) extends Fd K mg "law" st ["_law_script"] where
 bl:∀ (s:Shared) (u:Value),BindsTo s fd ⟨[u],[]⟩ [("_law_script",u)]
noncomputable def Fl'.of {K:PySem.W.Frag} {mg:Str→Option Value} {h:Heap} (KX:K.In h) (G:h.Ns mainGlobals mg) {st:Stmt} (e:FxL K "law" "law" st "_law_script"):Fl' K mg st:=
 have e1:=e.choose_spec.choose_spec
 ⟨⟨⟨e.choose,e.choose_spec.choose,e1.2.1,e1.2.2.1⟩,PySem.W.mg_of KX G e1.1⟩,e1.2.2.2⟩
section
variable {K:PySem.W.Frag} {C:Addr} {x qual p zx zq:Str} {st st':Stmt} {ps:List Str} {f:Addr} {oc:Value} {od an:Option Addr} {osl:Array (Option Value)} {kV doc pm cdv ct:Value}
abbrev Bnd (x qual:Str) (st:Stmt) (ps:List Str):Prop:=∀ (kV doc pm:Value) (an:Option Addr) (cdv ct:Value) (us:List Value),us.length=ps.length→bindArgs (PySem.W.fnOf x qual (a0 st) (aP st) (ap st) .none kV doc pm an cdv ct) ⟨us,[]⟩=pure (ps.zip us)
theorem fx2 (es:st=st') (e1:PySem.W.nsIn K mainGlobals x=some (some (.ref f))) (e2:K.lookup f=some ⟨oc,od,.func (PySem.W.fnOf zx zq (a0 st') (aP st') (ap st') .none kV doc pm an cdv ct),osl⟩) (e3:PySem.W.codeIn K cdv qual=true) (e4:PySem.W.keepIn K (.ref f)=true)
 (h:Bnd x qual st ps:=by first | (exact fun _ _ _ _ _ _ us hl=>match us,hl with | [_],_=>rfl) | (exact fun _ _ _ _ _ _ us hl=>match us,hl with | [_,_],_=>rfl) | (exact fun _ _ _ _ _ _ us hl=>match us,hl with | [_,_,_],_=>rfl) | (exact fun _ _ _ _ _ _ us hl=>match us,hl with | [_,_,_,_],_=>rfl) | (exact fun _ _ _ _ _ _ us hl=>match us,hl with | [_,_,_,_,_],_=>rfl))
 (ex:x=zx:=by kernel_rfl) (eq:qual=zq:=by kernel_rfl):Fx K x qual st ps:=fx_mk2 ex eq es e1 e2 e3 e4 h
theorem fxl2 (es:st=st') (e1:PySem.W.nsIn K mainGlobals x=some (some (.ref f))) (e2:K.lookup f=some ⟨oc,od,.func (PySem.W.fnOf zx zq (a0 st') (aP st') (ap st') .none kV doc pm an cdv ct),osl⟩) (e3:PySem.W.codeIn K cdv qual=true) (e4:PySem.W.keepIn K (.ref f)=true)
 (h:Bnd x qual st [p]:=by (exact fun _ _ _ _ _ _ us hl=>match us,hl with | [_],_=>rfl)) (ex:x=zx:=by kernel_rfl) (eq:qual=zq:=by kernel_rfl):FxL K x qual st p:=fxl_mk2 ex eq es e1 e2 e3 e4 h
theorem fm2 (es:st=st') (e1:PySem.W.findIn K (.ref C) x=some (some (.ref f))) (e2:K.lookup f=some ⟨oc,od,.func (PySem.W.fnOf zx zq (a0 st') (aP st') (ap st') .none kV doc pm an cdv ct),osl⟩) (e3:PySem.W.codeIn K cdv qual=true) (e4:PySem.W.keepIn K (.ref f)=true) (e5:PySem.W.isFn K (.ref f)=true)
 (h:Bnd x qual st ps:=by first | (exact fun _ _ _ _ _ _ us hl=>match us,hl with | [_],_=>rfl) | (exact fun _ _ _ _ _ _ us hl=>match us,hl with | [_,_],_=>rfl) | (exact fun _ _ _ _ _ _ us hl=>match us,hl with | [_,_,_],_=>rfl) | (exact fun _ _ _ _ _ _ us hl=>match us,hl with | [_,_,_,_],_=>rfl) | (exact fun _ _ _ _ _ _ us hl=>match us,hl with | [_,_,_,_,_],_=>rfl))
 (ex:x=zx:=by kernel_rfl) (eq:qual=zq:=by kernel_rfl):Fm K C x qual st ps:=fm_mk2 ex eq es e1 e2 e3 e4 e5 h
end
abbrev Ok {K:PySem.W.Frag} {x q:Str} {st:Stmt} {ps:List Str} (P:Program) (w:World) (mg:Str→Option Value) (base:Heap) (k:Nat) (F:Fb K x q st ps) (sp:Sp):Prop:=dM P w K mg base CX0 k F.f F.fd ps sp
def fQ (N ps:List Str) (sc:Scope):Bool:=sc.kind==.function&&!sc.isCoroutine&&!sc.isGenerator&&decide N.Nodup&&N.take ps.length==ps&&ps.all (fun x=>sc.names.lookup x==some .local||sc.names.lookup x==some .cell)&&sc.names.all (fun y=>!(y.2==.free))
theorem fQ.fs {N ps:List Str} {sc:Scope} (h:fQ N ps sc=true):dN N ps sc:=by
 unfold fQ at h
 simp only [Bool.and_eq_true] at h
 obtain ⟨⟨⟨⟨⟨⟨a,b⟩,c⟩,d⟩,e⟩,f⟩,g⟩:=h
 refine ⟨by simpa using a,by simpa using b,by simpa using c,by simpa using d,by simpa using e,fun x hx=>?_,fun y hy z=>?_⟩
 ·
  have:=List.all_eq_true.mp f x hx
  simpa using this
 ·
  have:=List.all_eq_true.mp g y hy
  simp [z] at this
section
variable {P:Program} {w:World} {K:PySem.W.Frag} {mg:Str→Option Value} {base:Heap} {x q:Str} {st:Stmt} {ps:List Str} {k:Nat} {F:FS}
abbrev Bod (P:Program) (w:World) (mg:Str→Option Value) (base:Heap) (k:Nat) (F0:Fb K x q st ps) (L:List Str) (F:FS):Prop:=
 ∀ (cdv:Value) (A:Around) (outer:List Env) (s:Shared) (H:Hp) (E:XK),bq k (A.deeper (PyProof.Rows.envOfC q (ap st) s.heap.objs.size F0.f cdv))→(ps++L).Nodup→DSs (jr CX0 P w K mg base (ps++L) q (ap st) F0.f cdv A outer s H E).nox (aP st) F
theorem fD {F0:Fb K x q st ps} (L:List Str) (h:Bod P w mg base k F0 L F) (S:fQ (ps++L) ps (ap st)=true:=by kernel_rfl):Ok P w mg base (k+1) F0 (spD ps.length (run (ps++L).length F)):=
 fn_D F0.fn (fQ.fs S) fun cdv A o s H E hr=>h cdv A o s H E hr (fQ.fs S).nd
theorem fN {F0:Fb K x q st ps} (L:List Str) (h:Bod P w mg base k F0 L F) (S:fQ (ps++L) ps (ap st)=true:=by kernel_rfl):Ok P w mg base (k+1) F0 (spN ps.length (runN (ps++L).length F)):=
 fn_N F0.fn (fQ.fs S) fun cdv A o s H E hr=>h cdv A o s H E hr (fQ.fs S).nd
theorem fI {F0:Fb K x q st ps} {C:Addr} {n:Nat} (L:List Str) (h:Bod P w mg base k F0 L F) (hn:ps.length=n+1:=by rfl) (S:fQ (ps++L) ps (ap st)=true:=by kernel_rfl):Ok P w mg base (k+1) F0 (spIN C n (fun ds=>unif fun p=>f8 (ps++L).length C F ds p)):=
 fn_IN hn F0.fn (fQ.fs S) (fun ds fs h=>unif_all h) fun cdv A o s H E hr=>h cdv A o s H E hr (fQ.fs S).nd
theorem fS {p1 p2:Str} {F0:Fb K x q st [p1,p2]} (L:List Str) (h:Bod P w mg base k F0 L F) (S:fQ ([p1,p2]++L) [p1,p2] (ap st)=true:=by kernel_rfl):Ok P w mg base (k+1) F0 (spS K (runS ([p1,p2]++L).length K F)):=
 fn_S F0.fn (fQ.fs S) (by simp) fun cdv A o s H E hr=>h cdv A o s H E hr (fQ.fs S).nd
theorem fL {p1:Str} {F0:Fb K x q st [p1]} (L:List Str) (h:Bod P w mg base k F0 L F) (S:fQ ([p1]++L) [p1] (ap st)=true:=by kernel_rfl):Ok P w mg base (k+1) F0 (spL K (runL ([p1]++L).length K F)):=
 fn_L F0.fn (fQ.fs S) (by simp) fun cdv A o s H E hr=>h cdv A o s H E hr (fQ.fs S).nd
end
section
variable {X:Cx} {a b c d e o:Expr} {es:List Expr} {fa fb fc fd fo f:FE} {g:FN} {fr:DSt→Option (List R)} {x y q:Str} {st:Stmt} {ps:List Str} {p pos pos' apos:Pos} {i j k n m':Nat} {C:Addr} {m:List D→Option D} {F G:FS} {body:List Stmt}
theorem dv (hN:X.N[i]?=some x:=by rfl) (hv:Vis X.env.scope x:=by first | exact Or.inl rfl | exact Or.inr (Or.inl rfl) | exact Or.inr (Or.inr rfl)) (hd:(x==("__debug__" : Str))=false:=by decide)
 (hcd:(x==("__classdict__" : Str))=false:=by decide):DE X (.Name x pos) (ab i):=de_var (pv i hN hv hd hcd)
theorem dk {z:Int} (h:∃ t,X.mg x=some (.int z t)) (hg:Gl X x:=by rfl) (hd:(x==("__debug__" : Str))=false:=by decide):DE X (.Name x pos) (ac (.int z)):=by
 obtain ⟨t,h⟩:=h
 exact mh (pe_glob (v:=.int z) hg h ⟨_,rfl⟩ hd) fun H=>by unfold Rep;rfl
theorem dx (ha:DE X a fa) (hb:DE X b fb) (hs:jS b:=by exact fun _ _=>rfl):DE X (.Subscript a b pos) (ad oIx fa fb):=de_ix ix_oIx ha hb hs
theorem d1 (ha:DE X e fa) (hs:starEach [e] X.env=(false,eval e X.env)::starEach [] X.env:=by exact bF rfl):DA X [e] (aa fa af):=ah ha iO hs
theorem du {F:Fd X.K X.mg x st ps} (G:Ok X.prog X.w X.mg X.base k F.toFb (spD n m)) (hr:bq j X.A) (ha:DA X (e::es) fr) (hk:k≤j:=by decide)
 (hg:Gl X x:=by rfl) (hdb:(x==("__debug__" : Str))=false:=by decide) (he:starEach (e::es) X.env=(false,eval e X.env)::starEach es X.env:=by exact bF rfl) (hpl:(backTo pos (starEach es X.env)).any (·.1)=false:=by rfl) :
 DE X (.Call (.Name x p) (e::es) [] pos) (ay n m fr):=de_u ⟨F.fn,F.mgx,F.bd⟩ G (hr.mono hk) ha hg hdb he hpl
theorem nu {F:Fd X.K X.mg x st ps} (G:Ok X.prog X.w X.mg X.base k F.toFb (spN n m)) (hr:bq j X.A) (ha:DA X (e::es) fr) (hk:k≤j:=by decide)
 (hg:Gl X x:=by rfl) (hdb:(x==("__debug__" : Str))=false:=by decide) (he:starEach (e::es) X.env=(false,eval e X.env)::starEach es X.env:=by exact bF rfl) (hpl:(backTo pos (starEach es X.env)).any (·.1)=false:=by rfl) :
 DN X (.Call (.Name x p) (e::es) [] pos) (cP n m fr):=dn_u ⟨F.fn,F.mgx,F.bd⟩ G (hr.mono hk) ha hg hdb he hpl
theorem nk {F:Ni X.K C q st ps} {m:List D→Option (List (Str×D))} (c:Cd X.K X.mg C x) (G:Ok X.prog X.w X.mg X.base k F.toFb (spIN C n m)) (hr:bq j X.A) (ha:DA X (e::es) fr) (hk:k+1≤j:=by decide)
 (hg:Gl X x:=by rfl) (hdb:(x==("__debug__" : Str))=false:=by decide) (he:starEach (e::es) X.env=(false,eval e X.env)::starEach es X.env:=by exact bF rfl) (hpl:(backTo pos (starEach es X.env)).any (·.1)=false:=by rfl) :
 DN X (.Call (.Name x p) (e::es) [] pos) (f9 C n m fr):=dn_mk F.mk' G F.bd c.g (hr.mono hk) ha hg hdb he hpl
theorem dm {F:Md X.K C x q st ps} {pl:Sem Bool} (c:Cls X.K C) (G:Ok X.prog X.w X.mg X.base k F.toFb (spD n m)) (hr:bq j X.A) (ho:DE X o fo) (ha:DA X (e::es) fr) (hk:k≤j:=by decide)
  (hst:starEach (e::es) X.env=(false,eval e X.env)::starEach es X.env:=by rfl) (hpl:(backTo pos (starEach es X.env)).any (·.1)=false:=by rfl)
  (ht:eval (.Call (.Attribute o x apos) (e::es) [] pos) X.env=(do
   let ov ←eval o X.env
   standAt apos.atName
   let (f,first) ←holding [ov] (getMethod ov x pl)
   callWith pos f first (backTo pos (starEach (e::es) X.env)) (backToKw pos (keywordEach [] X.env))):=by rfl):DE X (.Call (.Attribute o x apos) (e::es) [] pos) (bH C x n m fo fr):=
 de_m (pe_meth (E:=E0) ho.go c F.mt G (hr.mono hk) F.bd .nil lC ha.go hst hpl ht)
theorem dm0 {F:Md X.K C x q st ps} {pl:Sem Bool} (c:Cls X.K C) (G:Ok X.prog X.w X.mg X.base k F.toFb (spD n m)) (hr:bq j X.A) (ho:DE X o fo) (hk:k≤j:=by decide)
  (ht:eval (.Call (.Attribute o x apos) [] [] pos) X.env=(do
   let ov ←eval o X.env
   standAt apos.atName
   let (f,first) ←holding [ov] (getMethod ov x pl)
   callWith pos f first (backTo pos (starEach [] X.env)) (backToKw pos (keywordEach [] X.env))):=by rfl):DE X (.Call (.Attribute o x apos) [] [] pos) (bH C x n m fo af):=
 de_m0 (pe_meth0 (E:=E0) ho.go c F.mt G (hr.mono hk) F.bd .nil lC ht)
theorem duS {F:Fd X.K X.mg y st ps} {m:List Int→Int→Option Int} {py:Pos} (G:Ok X.prog X.w X.mg X.base k F.toFb (spS X.K m)) (hr:bq j X.A) (h:PE X (.Name x p) (eX i)) (hb:DE X e f) (hk:k≤j:=by decide)
 (hg:Gl X y:=by rfl) (hdb:(y==("__debug__" : Str))=false:=by decide) (he:starEach [.Name x p,e] X.env=(false,eval (.Name x p) X.env)::starEach [e] X.env:=by exact bF rfl) (hs:starEach [e] X.env=[(false,eval e X.env)]:=by exact bF rfl) (hpl:(backTo pos (starEach [e] X.env)).any (·.1)=false:=by rfl) :
 DE X (.Call (.Name y py) [.Name x p,e] [] pos) (fq X.K i m f):=de_callS ⟨F.fn,F.mgx,F.bd⟩ G (hr.mono hk) h hb hg hdb he hs hpl
theorem df (ho:DE X o fo) (hc:Cls X.K C) (hk:NoAttr X.K C x) (hb:attributeBase o x X.env (eval o X.env)=eval o X.env:=by rfl):DE X (.Attribute o x pos) (bE (isC C) x fo):=de_fld ho (fun C' h=>by rw [isC_of h];exact ⟨hc,hk⟩) hb
theorem ii_int (he:DE X e f) (h1:X.mg "int" = none) (h2:X.mg "isinstance" = none) (hs:starEach [e,.Name "int" p] X.env=(false,eval e X.env)::starEach [.Name "int" p] X.env:=by rfl) (hg:Gl X "int":=by rfl) (hg2:Gl X "isinstance":=by rfl) :
 DE X (.Call (.Name "isinstance" apos) [e,.Name "int" p] [] pos) (ax dX f):=eP he (jQ (v:=.ty "int") hg h1 PyProof.Rows.boot_int rfl) (.inl ⟨_,rfl⟩) rfl (kk_int _) hg2 h2 hs
theorem mH (he:DE X e f) (h1:X.mg "bool" = none) (h2:X.mg "isinstance" = none) (hs:starEach [e,.Name "bool" p] X.env=(false,eval e X.env)::starEach [.Name "bool" p] X.env:=by rfl) (hg:Gl X "bool":=by rfl) (hg2:Gl X "isinstance":=by rfl) :
 DE X (.Call (.Name "isinstance" apos) [e,.Name "bool" p] [] pos) (ax is_bool f):=eP he (jQ (v:=.ty "bool") hg h1 PyProof.Rows.boot_bool rfl) (.inl ⟨_,rfl⟩) rfl (kk_bool _) hg2 h2 hs
theorem mI (he:DE X e f) (h1:X.mg "list" = none) (h2:X.mg "isinstance" = none) (hs:starEach [e,.Name "list" p] X.env=(false,eval e X.env)::starEach [.Name "list" p] X.env:=by rfl) (hg:Gl X "list":=by rfl) (hg2:Gl X "isinstance":=by rfl) :
 DE X (.Call (.Name "isinstance" apos) [e,.Name "list" p] [] pos) (ax fj f):=eP he (jQ (v:=.ty "list") hg h1 PyProof.Rows.boot_list rfl) (.inl ⟨_,rfl⟩) rfl (kk_list _) hg2 h2 hs
theorem ii_tuple (he:DE X e f) (h1:X.mg "tuple" = none) (h2:X.mg "isinstance" = none) (hs:starEach [e,.Name "tuple" p] X.env=(false,eval e X.env)::starEach [.Name "tuple" p] X.env:=by rfl) (hg:Gl X "tuple":=by rfl) (hg2:Gl X "isinstance":=by rfl) :
 DE X (.Call (.Name "isinstance" apos) [e,.Name "tuple" p] [] pos) (ax ij f):=eP he (jQ (v:=.ty "tuple") hg h1 PyProof.Rows.boot_tuple rfl) (.inl ⟨_,rfl⟩) rfl (kk_tuple _) hg2 h2 hs
theorem ii_c {ans:D→Option Bool} (he:DE X e f) (h1:Cd X.K X.mg C x) (hk:Ka X.K ans C) (h2:X.mg "isinstance" = none) (hs:starEach [e,.Name x p] X.env=(false,eval e X.env)::starEach [.Name x p] X.env:=by rfl) (hg:Gl X x:=by rfl) (hg2:Gl X "isinstance":=by rfl) (hd:(x==("__debug__" : Str))=false:=by decide) :
 DE X (.Call (.Name "isinstance" apos) [e,.Name x p] [] pos) (ax ans f):=eP he (pe_glob (v:=.ref C) hg h1.g rfl hd) (.inr ⟨_,rfl⟩) rfl hk hg2 h2 hs
theorem cJ (hm:X.mg "len" = none) (ha:DE X e f) (hg:Gl X "len":=by rfl) (he:starEach [e] X.env=(false,eval e X.env)::starEach [] X.env:=by exact bF rfl):DE X (.Call (.Name "len" p) [e] [] pos) (az bx (aa f af)):=de_b1 c_len PySem.boot_len hm (d1 ha he) hg (he:=he)
theorem b_all (hm:X.mg "all" = none) (ha:DE X e f) (hc:X.calm=true:=by rfl) (hg:Gl X "all":=by rfl) (he:starEach [e] X.env=(false,eval e X.env)::starEach [] X.env:=by exact bF rfl):DE X (.Call (.Name "all" p) [e] [] pos) (az oAll (aa f af)):=de_b1 (c_all hc) PyProof.Rows.boot_all hm (d1 ha he) hg (he:=he)
theorem c_eq (ha:DE X a fa) (hb:DE X b fb) (hr:bq j X.A):DE X (.Compare a [.Eq] [b] pos) (ad oEq fa fb):=de_cmp (op_oEq (hu64 hr)) ha hb (ke _)
theorem c_in (ha:DE X a fa) (hb:DE X b fb) (hr:bq j X.A) (hm:behindInMarks .In b=false:=by with_unfolding_all rfl):DE X (.Compare a [.In] [b] pos) (ad oIn fa fb):=de_cmp (op_oIn (hu64 hr)) ha hb hm
theorem t_eq (ha:DE X a fa) (hb:DE X b fb) (hr:bq j X.A):DT X (.Compare a [.Eq] [b] pos) (aj (ad oEq fa fb)):=ki (op_oEq (hu64 hr)) ha hb (ke _)
theorem t_ne (ha:DE X a fa) (hb:DE X b fb) (hr:bq j X.A):DT X (.Compare a [.NotEq] [b] pos) (aj (ad oNe fa fb)):=ki (op_oNe (hu64 hr)) ha hb (ke _)
theorem t_in (ha:DE X a fa) (hb:DE X b fb) (hr:bq j X.A) (hm:behindInMarks .In b=false:=by with_unfolding_all rfl):DT X (.Compare a [.In] [b] pos) (aj (ad oIn fa fb)):=ki (op_oIn (hu64 hr)) ha hb hm
theorem t_ni (ha:DE X a fa) (hb:DE X b fb) (hr:bq j X.A) (hm:behindInMarks .NotIn b=false:=by with_unfolding_all rfl):DT X (.Compare a [.NotIn] [b] pos) (aj (ad oNotIn fa fb)):=ki (op_oNotIn (hu64 hr)) ha hb hm
theorem dc2 {op:CmpOp} {o:D→D→Option R} (ho:OpR X (compareOp op) (rD o)) (ha:DE X a fa) (hb:DE X b fb) (hm:behindInMarks op b=false:=by exact ke _):DE X (.Compare a [op] [b] pos) (ad o fa fb):=de_cmp ho ha hb hm
theorem tc2 {op:CmpOp} {o:D→D→Option R} (ho:OpR X (compareOp op) (rD o)) (ha:DE X a fa) (hb:DE X b fb) (hm:behindInMarks op b=false:=by exact ke _):DT X (.Compare a [op] [b] pos) (aj (ad o fa fb)):=ki ho ha hb hm
theorem t_and {tf tg:DSt→Option Bool} (ha:DT X a tf) (hb:DT X b tg):DT X (.BoolOp .And [a,b] pos) (dW tf tg):=(dw_and ha (dw_and1 hb)).dt
theorem t_or {tf tg:DSt→Option Bool} (ha:DT X a tf) (hb:DT X b tg):DT X (.BoolOp .Or [a,b] pos) (cq tf tg):=(dw_or ha (dw_or1 hb)).dt
theorem t_or3 {tf tg th:DSt→Option Bool} (ha:DT X a tf) (hb:DT X b tg) (hc:DT X c th):DT X (.BoolOp .Or [a,b,c] pos) (cq tf (cq tg th)):=(dw_or ha (dw_or hb (dw_or1 hc))).dt
abbrev Inn (X:Cx) (N:List Str) (scope:Scope) (tg elt:Expr) (ifs:List Expr) (ks:List Nat) (g:GD) (c:DSt→Option Bool) (fe:FE):Prop:=N.Nodup→∀ cl C s H fp,DG (be X N scope cl C s H fp) tg ks g∧DIfs (be X N scope cl C s H fp) ifs c∧DE (be X N scope cl C s H fp) elt fe
abbrev InN (X:Cx) (N:List Str) (scope:Scope) (tg elt:Expr) (ifs:List Expr) (ks:List Nat) (g:GD) (c:DSt→Option Bool) (fe:FN):Prop:=N.Nodup→∀ cl C s H fp,DG (be X N scope cl C s H fp) tg ks g∧DIfs (be X N scope cl C s H fp) ifs c∧DN (be X N scope cl C s H fp) elt fe
section
variable {scope:Scope} {tg iter elt:Expr} {ifs:List Expr} {ks ix:List Nat} {fi:DSt→Option (List D)} {g:GD} {c:DSt→Option Bool} {fe:FE} {fn:FN} {spos py:Pos}
theorem dc (N:List Str) (hi:DI X tg iter fi) (hin:Inn X N scope tg elt ifs ks g c fe) (hc:X.calm=true:=by rfl) (S:kl X.env.scope X.N N n ix scope=true:=by kernel_rfl) (nd:N.Nodup:=by decide +kernel) (hk:∀ j∈ks,j<n:=by decide)
 (hs:∀ x,foldedSetIterable iter X.env x=pure x:=by intro _;rfl):DE X (.ListComp elt [⟨tg,iter,ifs,0⟩] scope pos) (bZ fi g c fe n ix):=de_comp hc (iP rfl rfl S) hk hi (hin nd) hs
theorem nc (N:List Str) (hi:DI X tg iter fi) (hin:InN X N scope tg elt ifs ks g c fn) (hc:X.calm=true:=by rfl) (S:kl X.env.scope X.N N n ix scope=true:=by kernel_rfl) (nd:N.Nodup:=by decide +kernel) (hk:∀ j∈ks,j<n:=by decide)
 (hs:∀ x,foldedSetIterable iter X.env x=pure x:=by intro _;rfl):DN X (.ListComp elt [⟨tg,iter,ifs,0⟩] scope pos) (kq fi g c fn n ix):=dn_comp hc (iP rfl rfl S) hk hi (hin nd) hs
theorem sc (N:List Str) (hN:X.N.Nodup) (hi:DI X tg iter fi) (hin:Inn X N scope tg elt ifs ks g c fe) (hc:X.calm=true:=by rfl) (S:kl X.env.scope X.N N n ix scope=true:=by kernel_rfl) (nd:N.Nodup:=by decide +kernel) (hk:∀ j∈ks,j<n:=by decide)
 (hiy:X.N[i]?=some y:=by rfl) (hy:Loc X.env.scope y:=by first | exact .inl rfl | exact .inr rfl)
 (hsw:swapsWith (.ListComp elt [⟨tg,iter,ifs,0⟩] scope pos) (some (.Name y py)) spos.line X.env=pure true:=by rfl) (hf:X.fn y=true∨X.env.scope.names.lookup y=some .local:=by first | exact .inl rfl | exact .inr rfl | assumption)
 (hs:∀ x,foldedSetIterable iter X.env x=pure x:=by intro _;rfl):DS X (.Assign [.Name y py] (.ListComp elt [⟨tg,iter,ifs,0⟩] scope pos) spos) (sset i (bZ fi g c fe n ix)):=ds_comp hc (iP rfl rfl S) hk hi (hin nd) hN hiy hy hsw hf hs
theorem gn (hN:X.N.Nodup) (hi:X.N[i]?=some x:=by rfl) (hx:Loc X.env.scope x:=by first | exact .inl rfl | exact .inr rfl) (hf:X.fn x=true∨X.env.scope.names.lookup x=some .local:=by first | exact .inl rfl | exact .inr rfl | assumption):DG X (.Name x pos) [i] (am i):=dg_name (pg_name hN hi hx hf)
theorem g2 {k:Nat} {js:List Nat} {g':GD} (h1:DG X a ks g) (h2:DG X b js g') (hc:X.calm=true:=by rfl) (e1:(assignEach [a,b] X.env).map (·.2)=assign a X.env::(assignEach [b] X.env).map (·.2):=by rfl) (e2:(assignEach [b] X.env).map (·.2)=assign b X.env::(assignEach [] X.env).map (·.2):=by rfl)
 (hn:(assignEach [a,b] X.env).length=2:=by rfl) (hst:(assignEach [a,b] X.env).findIdx? (·.1)=none:=by rfl):DG X (.Tuple [a,b] k pos) (ks++(js++[])) (eG 2 (aX g (aX g' eM))):=dg_tup hc (nr h1 (nr h2 dgs_nil e2) e1) hn hst
theorem sf (hi:DI X tg iter fi) (hg:DG X tg ks g) (hb:DSs X body F) (hc:X.calm=true:=by rfl) (hp:PassesOwn (model X.prog X.w) X.A X.env X.xe:=by exact PassesOwn.never) (hs:∀ x,foldedSetIterable iter X.env x=pure x:=by intro _;rfl):DS X (.For tg iter body [] pos) (bB fi g F):=ds_for hp hc hi hg hb hs
theorem sw {t:DSt→Option Bool} (ht:DT X a t) (hb:DSs X body F) (hp:PassesOwn (model X.prog X.w) X.A X.env X.xe:=by exact PassesOwn.never):DS X (.While a body [] pos) (cH t F n):=ds_while n hp ht hb
theorem ir (hm:X.mg "range" = none) (ha:DE X a fa) (hg:Gl X "range":=by rfl) (hs:starEach [a] X.env=[(false,eval a X.env)]:=by exact bF rfl):DI X tg (.Call (.Name "range" p) [a] [] pos) (dJ (aa fa af)):=di_range1 hg hm (d1 ha hs) hs
end
theorem sA (hN:X.N.Nodup) (he:DE X e f) (hi:X.N[i]?=some x:=by rfl) (hx:Loc X.env.scope x:=by first | exact .inl rfl | exact .inr rfl) (hs:swapsWith e (some (.Name x pos')) pos.line X.env=pure false:=by rfl)
 (hf:X.fn x=true∨X.env.scope.names.lookup x=some .local:=by first | exact .inl rfl | exact .inr rfl | assumption):DS X (.Assign [.Name x pos'] e pos) (sset i f):=ds_set hN hi hx he hs hf
theorem stN (hN:X.N.Nodup) (he:DN X e g) (hi:X.N[i]?=some x:=by rfl) (hx:Loc X.env.scope x:=by first | exact .inl rfl | exact .inr rfl) (hs:swapsWith e (some (.Name x pos')) pos.line X.env=pure false:=by rfl)
 (hf:X.fn x=true∨X.env.scope.names.lookup x=some .local:=by first | exact .inl rfl | exact .inr rfl | assumption):DS X (.Assign [.Name x pos'] e pos) (gC i g):=ds_setN hN hi hx he hs hf
theorem stNB (hN:X.N.Nodup) (he:DN X e g) (hi:X.N[i]?=some x:=by rfl) (hx:Loc X.env.scope x:=by first | exact .inl rfl | exact .inr rfl) (hs:swapsWith e (some (.Name x pos')) pos.line X.env=pure false:=by rfl)
 (hf:X.fn x=true∨X.env.scope.names.lookup x=some .local:=by first | exact .inl rfl | exact .inr rfl | assumption):DS X (.Assign [.Name x pos'] e pos) (iT k i g):=ds_setNB hN hi hx he hs hf
theorem sg {op:Operator} {g:Int→Int→Int} (hN:X.N.Nodup) (he:DE X e f) (ho:PIp X op (ipI g)) (hi:X.N[i]?=some x:=by rfl) (hx:Loc X.env.scope x:=by first | exact .inl rfl | exact .inr rfl)
 (hf:X.fn x=true∨X.env.scope.names.lookup x=some .local:=by first | exact .inl rfl | exact .inr rfl | assumption):DS X (.AugAssign (.Name x pos') op e pos) (ju g i f):=ds_aug hN hi hx he ho hf
theorem i0 {t:DSt→Option Bool} (hc:DT X c t) (ha:DSs X body F):DS X (.If c body [] pos) (sif t F aI):=ds_if hc ha dss_nil
theorem iB0 {t:DSt→Option Bool} (hc:DT X c t) (ha:DSs X body F):DS X (.If c body [] pos) (eR i t F aI):=ds_ifB hc ha dss_nil
end
end Ew
end
section
set_option linter.all false
namespace Mx
section
variable {P N:Type} [DecidableEq P] [DecidableEq N]
abbrev Wlk (P N:Type):=List P×List N
def aD (w:Wlk P N):List (P×P×N):=w.1.zip (w.1.tail.zip w.2)
theorem lh (qs:List P) (ns:List N) (b c:P) (n:N) (h:qs.length=ns.length) :
  aD (qs++[b]++[c],ns++[n])=aD (qs++[b],ns)++[(b,c,n)]:=by
 induction qs generalizing ns with
 | nil=>cases ns with
  | nil=>rfl
  | cons m ns=>simp at h
 | cons q qs ih=>cases ns with
  | nil=>simp at h
  | cons m ns=>
   have:=ih ns (by simpa using h)
   cases qs with
   | nil=>cases ns with
    | nil=>rfl
    | cons _ _=>simp at h
   | cons q' qs=>simp [aD] at this ⊢;exact this
theorem mJ {ps:List P} {ns:List N} {b c:P} {n:N} (hl:ps.getLast?=some b) (h:ps.length=ns.length+1) :
  aD (ps++[c],ns++[n])=aD (ps,ns)++[(b,c,n)]:=by
 obtain ⟨qs,rfl⟩ : ∃ qs,ps=qs++[b]:=by
  rw [List.getLast?_eq_some_iff] at hl;exact hl
 exact lh qs ns b c n (by simpa using h)
inductive Sw (L:List (P×P×N)) (ends:List P) (a:P):P→List P→List N→Prop
 | nil:Sw L ends a a [a] []
 | snoc {b ps ns c n}:Sw L ends a b ps ns→(b,c,n)∈L→c∉ps→b∉ends→Sw L ends a c (ps++[c]) (ns++[n])
namespace Sw
variable {L:List (P×P×N)} {ends:List P} {a b:P} {ps:List P} {ns:List N}
theorem last (h:Sw L ends a b ps ns):ps.getLast?=some b:=by cases h <;> simp
theorem head (h:Sw L ends a b ps ns):ps.head?=some a:=by
 induction h with
 | nil=>rfl
 | snoc h1 _ _ _ ih=>rw [List.head?_append,ih];rfl
theorem len (h:Sw L ends a b ps ns):ps.length=ns.length+1:=by
 induction h with
 | nil=>rfl
 | snoc h1 _ _ _ ih=>simp [ih]
theorem nodup (h:Sw L ends a b ps ns):ps.Nodup:=by
 induction h with
 | nil=>simp
 | snoc h1 _ hc _ ih=>
  rw [List.nodup_append]
  refine ⟨ih,by simp,?_⟩
  intro x hx y hy
  simp at hy
  subst hy
  intro e
  subst e
  exact hc hx
theorem memA (h:Sw L ends a b ps ns):a∈ps:=by
 induction h with
 | nil=>simp
 | snoc h1 _ hc _ ih=>simp [ih]
theorem memB (h:Sw L ends a b ps ns):b∈ps:=by
 cases h <;> simp
theorem inner (h:Sw L ends a b ps ns):∀ p∈ps,p=b∨p∉ends:=by
 induction h with
 | nil=>simp
 | snoc h1 _ hc hb ih=>
  intro p hp
  simp at hp
  rcases hp with hp | hp
  ·
   rcases ih p hp with e | e
   ·
    subst e;exact .inr hb
   ·
    exact .inr e
  ·
   exact .inl hp
theorem steps_snoc {c n} (h:Sw L ends a b ps ns):aD (ps++[c],ns++[n])=aD (ps,ns)++[(b,c,n)]:=mJ h.last h.len
theorem step (h:Sw L ends a b ps ns):∀ s∈aD (ps,ns),s∈L∧s.1∈ps∧s.2.1∈ps∧s.2.2∈ns∧s.2.1≠a∧s.1∉ends:=by
 induction h with
 | nil=>intro s hs;simp [aD] at hs
 | snoc h1 hL hc hb ih=>
  intro s hs
  rw [h1.steps_snoc] at hs
  simp at hs
  rcases hs with hs | hs
  ·
   obtain ⟨i1,i2,i3,i4,i5,i6⟩:=ih s hs
   exact ⟨i1,by simp [i2],by simp [i3],by simp [i4],i5,i6⟩
  ·
   subst hs
   refine ⟨hL,by simp [h1.memB],by simp,by simp,?_,hb⟩
   intro e
   simp at e
   subst e
   exact hc h1.memA
theorem names (h:Sw L ends a b ps ns):(aD (ps,ns)).map (·.2.2)=ns:=by
 induction h with
 | nil=>rfl
 | snoc h1 hL hc hb ih=>rw [h1.steps_snoc];simp [ih]
theorem stepsNodup (h:Sw L ends a b ps ns):(aD (ps,ns)).Nodup:=by
 induction h with
 | nil=>simp [aD]
 | snoc h1 hL hc hb ih=>
  rw [h1.steps_snoc,List.nodup_append]
  refine ⟨ih,by simp,?_⟩
  intro x hx y hy e
  simp at hy
  subst hy
  subst e
  exact hc (h1.step _ hx).2.2.1
theorem namesNodup (h:Sw L ends a b ps ns) (U:∀ s∈L,∀ t∈L,s.2.2=t.2.2→t=s∨t=(s.2.1,s.1,s.2.2)):ns.Nodup:=by
 induction h with
 | nil=>simp
 | snoc h1 hL hc hb ih=>
  rw [List.nodup_append]
  refine ⟨ih,by simp,?_⟩
  intro x hx y hy e
  simp at hy
  subst hy
  subst e
  rw [←h1.names] at hx
  simp only [List.mem_map] at hx
  obtain ⟨s,hs,e⟩:=hx
  have q:=h1.step s hs
  rcases U s q.1 _ hL e with e' | e'
  ·
   rw [←e'] at q;exact hc q.2.2.1
  ·
   have:s.1=_:=(congrArg (fun (x:P×P×N)=>x.2.1) e').symm
   simp at this
   rw [this] at q
   exact hc q.2.1
end Sw
def scan1 (w:Wlk P N) (q:List (Wlk P N)×List P) (s:P×P×N):List (Wlk P N)×List P:=
 if w.1.getLast?=some s.1∧s.2.1∉q.2 then (q.1++[(w.1++[s.2.1],w.2++[s.2.2])],q.2++[s.2.1]) else q
def scan (L:List (P×P×N)) (w:Wlk P N) (q:List (Wlk P N)×List P):=L.foldl (scan1 w) q
def gQ (ends:List P) (w:Wlk P N):Bool:=match w.1.getLast? with
 | some b=>decide (b∈ends)
 | none=>false
def bfs (L:List (P×P×N)) (ends:List P):Nat→Nat→List (Wlk P N)×List P→Option (Wlk P N)
 | 0,_,_=>none
 | f+1,k,q=>match q.1[k]? with
  | none=>none
  | some w=>if gQ ends w then some w else bfs L ends f (k+1) (scan L w q)
def cE (n:Nat) (L:List (P×P×N)) (a:P) (ends:List P):Option (Wlk P N):=bfs L ends n 0 ([([a],[])],[a])
structure Inv (L L0:List (P×P×N)) (ends:List P) (a:P) (q:List (Wlk P N)×List P):Prop where
 nd:q.2.Nodup
 ls:q.1.map (fun w=>w.1.getLast?)=q.2.map some
 ok:∀ w∈q.1,∃ b,Sw L0 ends a b w.1 w.2∧∀ p∈w.1,p∈q.2
 sub:∀ p∈q.2,p=a∨∃ s∈L0,s.2.1=p
 ha:a∈q.2
theorem scan1_inv {L L0:List (P×P×N)} {ends:List P} {a b:P} {q:List (Wlk P N)×List P} {w:Wlk P N} {s:P×P×N}
  (I:Inv L L0 ends a q) (hw:Sw L0 ends a b w.1 w.2) (hm:∀ p∈w.1,p∈q.2) (hb:b∉ends) (hs:s∈L0) :
  Inv L L0 ends a (scan1 w q s)∧(∃ e,(scan1 w q s).1=q.1++e)∧(∃ e,(scan1 w q s).2=q.2++e)∧(s.1=b→s.2.1∈(scan1 w q s).2):=by
 unfold scan1
 rw [hw.last]
 split
 ·
  rename_i h
  obtain ⟨h1,h2⟩:=h
  simp at h1
  subst h1
  refine ⟨⟨?_,?_,?_,?_,?_⟩,⟨_,rfl⟩,⟨_,rfl⟩,by simp⟩
  ·
   rw [List.nodup_append]
   refine ⟨I.nd,by simp,?_⟩
   intro x hx y hy e
   simp at hy
   subst hy;subst e
   exact h2 hx
  ·
   simp [I.ls]
  ·
   intro w' hw'
   simp at hw'
   rcases hw' with hw' | hw'
   ·
    obtain ⟨b',i1,i2⟩:=I.ok w' hw'
    exact ⟨b',i1,fun p hp=>by simp [i2 p hp]⟩
   ·
    subst hw'
    refine ⟨s.2.1,.snoc hw hs (fun h=>h2 (hm _ h)) hb,?_⟩
    intro p hp
    simp at hp ⊢
    rcases hp with hp | hp
    ·
     exact .inl (hm p hp)
    ·
     exact .inr hp
  ·
   intro p hp
   simp at hp
   rcases hp with hp | hp
   ·
    exact I.sub p hp
   ·
    exact .inr ⟨s,hs,hp.symm⟩
  ·
   simp [I.ha]
 ·
  rename_i h
  refine ⟨I,⟨[],by simp⟩,⟨[],by simp⟩,?_⟩
  intro e
  subst e
  simp at h
  exact h
theorem ky {L0:List (P×P×N)} {ends:List P} {a b:P} {w:Wlk P N} (hw:Sw L0 ends a b w.1 w.2) (hb:b∉ends) :
  ∀ (L:List (P×P×N)) (q:List (Wlk P N)×List P),(∀ s∈L,s∈L0)→Inv L0 L0 ends a q→(∀ p∈w.1,p∈q.2)→
  Inv L0 L0 ends a (scan L w q)∧(∃ e,(scan L w q).1=q.1++e)∧(∃ e,(scan L w q).2=q.2++e)∧(∀ s∈L,s.1=b→s.2.1∈(scan L w q).2)
 | [],q,_,I,hm=>⟨I,⟨[],by simp [scan]⟩,⟨[],by simp [scan]⟩,by simp⟩
 | s::L,q,hL,I,hm=>by
  obtain ⟨i1,⟨e1,j1⟩,⟨e2,j2⟩,i4⟩:=scan1_inv I hw hm hb (hL s (by simp))
  have hm':∀ p∈w.1,p∈(scan1 w q s).2:=fun p hp=>by rw [j2];simp [hm p hp]
  obtain ⟨k1,⟨f1,l1⟩,⟨f2,l2⟩,k4⟩:=ky hw hb L (scan1 w q s) (fun t ht=>hL t (by simp [ht])) i1 hm'
  have e:scan (s::L) w q=scan L w (scan1 w q s):=rfl
  rw [e]
  refine ⟨k1,⟨e1++f1,by rw [l1,j1];simp⟩,⟨e2++f2,by rw [l2,j2];simp⟩,?_⟩
  intro t ht et
  simp at ht
  rcases ht with ht | ht
  ·
   subst ht
   rw [l2]
   exact List.mem_append.2 (.inl (i4 et))
  ·
   exact k4 t ht et
structure Shut (L:List (P×P×N)) (a:P) (S:List P):Prop where
 ha:a∈S
 cl:∀ s∈L,s.1∈S→s.2.1∈S
def BfsOk (L:List (P×P×N)) (a:P) (ends:List P):Option (Wlk P N)→Prop
 | some w=>∃ b,b∈ends∧Sw L ends a b w.1 w.2
 | none=>∃ S,Shut L a S∧∀ p∈S,p∉ends
theorem mK {L:List (P×P×N)} {ends:List P} {a:P} {q:List (Wlk P N)×List P} (I:Inv L L ends a q):q.1.length≤L.length+1:=by
 have h1:q.1.length=q.2.length:=by have:=congrArg List.length I.ls;simpa using this
 have h2:=List.Nodup.length_le_of_subset (l₂:=a::L.map (·.2.1)) I.nd (by
  intro p hp
  rcases I.sub p hp with e | ⟨s,hs,e⟩
  ·
   simp [e]
  ·
   simp only [List.mem_cons,List.mem_map];exact .inr ⟨s,hs,e⟩)
 simp at h2
 omega
theorem bfs_ok {L:List (P×P×N)} {ends:List P} {a:P}:∀ (f k:Nat) (q:List (Wlk P N)×List P),Inv L L ends a q→
  (∀ i,i<k→∀ w,q.1[i]?=some w→gQ ends w=false∧∀ s∈L,w.1.getLast?=some s.1→s.2.1∈q.2)→k≤q.1.length→L.length+2≤f+k→
  BfsOk L a ends (bfs L ends f k q)
 | 0,k,q,I,_,hk,hf=>by have:=mK I;omega
 | f+1,k,q,I,hd,hk,hf=>by
  unfold bfs
  split
  ·
   rename_i hn
   have hk':k=q.1.length:=by
    rw [List.getElem?_eq_none_iff] at hn;omega
   have key:∀ p∈q.2,∃ i w,i<k∧q.1[i]?=some w∧w.1.getLast?=some p:=by
    intro p hp
    have:some p∈q.1.map (fun w=>w.1.getLast?):=by rw [I.ls];simp [hp]
    rw [List.mem_map] at this
    obtain ⟨w,hw,e⟩:=this
    obtain ⟨i,hi,e'⟩:=List.mem_iff_getElem.1 hw
    exact ⟨i,w,by omega,by simp [e',hi],e⟩
   refine ⟨q.2,⟨I.ha,?_⟩,?_⟩
   ·
    intro s hs hp
    obtain ⟨i,w,hi,hw,hl⟩:=key s.1 hp
    exact (hd i hi w hw).2 s hs hl
   ·
    intro p hp he
    obtain ⟨i,w,hi,hw,hl⟩:=key p hp
    have:=(hd i hi w hw).1
    simp [gQ,hl,he] at this
  ·
   rename_i w hw
   obtain ⟨b,sw,hm⟩:=I.ok w (List.mem_of_getElem? hw)
   split
   ·
    rename_i hl
    simp [gQ,sw.last] at hl
    exact ⟨b,hl,sw⟩
   ·
    rename_i hl
    have hb:b∉ends:=by simpa [gQ,sw.last] using hl
    obtain ⟨i1,⟨e1,j1⟩,⟨e2,j2⟩,i4⟩:=ky sw hb L q (fun _ h=>h) I hm
    have hk2:k<q.1.length:=by
     rcases Nat.lt_or_ge k q.1.length with h | h
     ·
      exact h
     ·
      rw [List.getElem?_eq_none h] at hw;simp at hw
    apply bfs_ok f (k+1) _ i1
    ·
     intro i hi w' hw'
     rw [j1,List.getElem?_append_left (by omega)] at hw'
     by_cases hik:i=k
     ·
      subst hik
      rw [hw] at hw'
      simp at hw'
      subst hw'
      refine ⟨by simpa using hl,?_⟩
      intro s hs e
      rw [sw.last] at e
      simp at e
      exact i4 s hs e.symm
     ·
      obtain ⟨d1,d2⟩:=hd i (by omega) w' hw'
      refine ⟨d1,fun s hs e=>?_⟩
      rw [j2]
      simp [d2 s hs e]
    ·
     rw [j1];simp;omega
    ·
     omega
theorem iU {L:List (P×P×N)} {a:P} {ends:List P} {n:Nat} (h:L.length+2≤n):BfsOk L a ends (cE n L a ends):=by
 apply bfs_ok
 ·
  exact ⟨by simp,by simp,by intro w hw;simp at hw;subst hw;exact ⟨a,.nil,by simp⟩,by simp,by simp⟩
 ·
  intro i hi;omega
 ·
  simp
 ·
  omega
end
end Mx
end
section
set_option linter.all false
namespace Mx
section
variable {P N:Type} [DecidableEq P] [DecidableEq N]
abbrev aY (P N:Type):=List (P×P×N)
def turned (s:P×P×N):P×P×N:=(s.2.1,s.1,s.2.2)
def kz (s:P×P×N):N:=s.2.2
def al (L:aY P N) (names:List N):aY P N:=L.filter fun s=>decide (s.2.2∉names)
theorem iu {α β:Type} {f:α→β}:∀ {L:List α},(L.map f).Nodup→L.Nodup
 | [],_=>by simp
 | x::L,h=>by
  simp only [List.map_cons,List.nodup_cons] at h ⊢
  exact ⟨fun hx=>h.1 (List.mem_map_of_mem hx),iu h.2⟩
theorem gD {α β:Type} {f:α→β}:∀ {L:List α},L.Nodup→(∀ x∈L,∀ y∈L,f x=f y→x=y)→(L.map f).Nodup
 | [],_,_=>by simp
 | x::L,h,hf=>by
  simp only [List.map_cons,List.nodup_cons] at h ⊢
  refine ⟨?_,gD h.2 fun y hy z hz=>hf y (by simp [hy]) z (by simp [hz])⟩
  intro hx
  obtain ⟨y,hy,e⟩:=List.mem_map.1 hx
  have:=hf y (by simp [hy]) x (by simp) e
  subst this
  exact h.1 hy
theorem mL {α:Type} {p:α→Bool} {L:List α} (h:L.Nodup):(L.filter p).Nodup:=List.Pairwise.filter p h
def iV (L:aY P N):Prop:=∀ s∈L,∀ t∈L,s.2.2=t.2.2→t=s∨t=(s.2.1,s.1,s.2.2)
theorem aH {L:aY P N} {ns:List N} {s:P×P×N}:s∈al L ns↔s∈L∧s.2.2∉ns:=by simp [al]
end
end Mx
end
section
set_option linter.all false
namespace Mx
section
variable {P N:Type} [DecidableEq P] [DecidableEq N]
def bW (L:aY P N) (p:P):aY P N:=L.filter fun s=>decide (p∉[s.1,s.2.1])
def dn (n:Nat) (L:aY P N) (met:List P) (s:P×P×N):Option (Wlk P N):=
 (cE n (bW L s.1) s.2.1 met).map fun w=>(s.1::w.1,s.2.2::w.2)
def eS (n:Nat) (L:aY P N) (s:P×P×N):Option (Wlk P N):=
 (cE n (al L [s.2.2]) s.2.1 [s.1]).map fun w=>(s.1::w.1,s.2.2::w.2)
def dQ (n:Nat) (L:aY P N) (met:List P):Option (Wlk P N):=match L.filter fun s=>decide (s.1∈met) with
 | []=>none
 | s::_=>match dn n L met s with
  | none=>eS n L s
  | some w=>some w
def cw (n:Nat):Nat→aY P N→List P→List (Wlk P N)→Option (List (Wlk P N))
 | 0,_,_,_=>none
 | f+1,L,met,acc=>if L=[] then some acc else match dQ n L met with
  | none=>none
  | some e=>cw n f (al L e.2) (met++e.1) (acc++[e])
theorem dd {L:aY P N} {p:P} {s:P×P×N}:s∈bW L p↔s∈L∧p≠s.1∧p≠s.2.1:=by simp [bW]
structure iw (L:aY P N) (r:P) (pt:P→Prop):Prop where
 sym:∀ s∈L,turned s∈L
 uniq:iV L
 ne:∀ s∈L,s.1≠s.2.1
 ptm:∀ s∈L,pt s.1
 conn:∀ Q:P→Prop,Q r→(∀ s∈L,Q s.1→Q s.2.1)→∀ p,pt p→Q p
 nobar:∀ s∈L,∀ Q:P→Prop,(∀ t∈L,t.2.2≠s.2.2→Q t.1→Q t.2.1)→Q s.2.1→Q s.1
structure Ear (L:aY P N) (met:List P) (used:List N) (e:Wlk P N):Prop where
 len:e.1.length=e.2.length+1
 pos:1≤e.2.length
 st:∀ s∈aD e,s∈L∧s.1∈e.1∧s.2.1∈e.1
 nm:(aD e).map kz=e.2
 nd:e.2.Nodup
 fresh:∀ x∈e.2,x∉used
 hd:∃ a,e.1.head?=some a∧a∈met
 lt:∃ b,e.1.getLast?=some b∧b∈met
 inn:∀ p∈e.1.tail.dropLast,p∉met
 kind:e.1.Nodup∨(e.1.tail.Nodup∧e.1.head?=e.1.getLast?∧2≤e.2.length)
structure Stt (L0:aY P N) (r:P) (met:List P) (used:List N):Prop where
 hr:r∈met
 hu:∀ s∈L0,s.2.2∈used→s.1∈met
theorem ft {p q:P} {ps:List P} {n:N} {ns:List N} (h:ps.head?=some q):aD (p::ps,n::ns)=(p,q,n)::aD (ps,ns):=by
 cases ps with
 | nil=>simp at h
 | cons x ps=>simp at h;subst h;rfl
theorem kA {ps:List P} {b:P} (nd:ps.Nodup) (hl:ps.getLast?=some b):∀ p∈ps.dropLast,p∈ps∧p≠b:=by
 obtain ⟨qs,rfl⟩:=List.getLast?_eq_some_iff.1 hl
 intro p hp
 simp at hp
 rw [List.nodup_append] at nd
 exact ⟨by simp [hp],fun e=>nd.2.2 p hp b (by simp) e⟩
theorem ear_of {L0 L:aY P N} {met:List P} {used:List N} {ends:List P} {M:aY P N} {s:P×P×N} {b:P} {ps:List P} {ns:List N}
  (hU:iV L0) (hL:∀ t∈L,t∈L0∧t.2.2∉used) (hM:∀ t∈M,t∈L) (hs:s∈L) (hm:s.1∈met) (hb:b∈met)
  (w:Sw M ends s.2.1 b ps ns) (hsn:s.2.2∉ns) (hin:∀ p∈ps,p≠b→p∉met)
  (hk:s.1∉ps∨(s.1=b∧s.2.1≠b)):Ear L0 met used (s.1::ps,s.2.2::ns):=by
 have hsi:aD (s.1::ps,s.2.2::ns)=(s.1,s.2.1,s.2.2)::aD (ps,ns):=ft w.head
 have nd:=w.namesNodup (fun x hx y hy e=>hU x (hL x (hM x hx)).1 y (hL y (hM y hy)).1 e)
 refine ⟨by simp [w.len],by simp,?_,?_,?_,?_,⟨s.1,rfl,hm⟩,⟨b,?_,hb⟩,?_,?_⟩
 ·
  intro t ht
  rw [hsi] at ht
  simp only [List.mem_cons] at ht
  rcases ht with rfl | ht
  ·
   exact ⟨(hL _ hs).1,by simp,by simp;exact .inr w.memA⟩
  ·
   have q:=w.step t ht
   exact ⟨(hL t (hM t q.1)).1,by simp [q.2.1],by simp [q.2.2.1]⟩
 ·
  rw [hsi];simp only [List.map_cons];rw [show (aD (ps,ns)).map kz=ns from w.names];rfl
 ·
  simp only [List.nodup_cons];exact ⟨hsn,nd⟩
 ·
  intro x hx
  simp only [List.mem_cons] at hx
  rcases hx with rfl | hx
  ·
   exact (hL s hs).2
  ·
   rw [←w.names] at hx
   obtain ⟨t,ht,rfl⟩:=List.mem_map.1 hx
   exact (hL t (hM t (w.step t ht).1)).2
 ·
  show (s.1::ps).getLast?=some b
  have:=w.last
  cases ps with
  | nil=>simp at this
  | cons x ps=>rw [List.getLast?_cons_cons];exact this
 ·
  intro p hp
  have:=kA w.nodup w.last p hp
  exact hin p this.1 this.2
 ·
  rcases hk with hk | ⟨hk,hk2⟩
  ·
   left;simp only [List.nodup_cons];exact ⟨hk,w.nodup⟩
  ·
   right
   refine ⟨w.nodup,?_,?_⟩
   ·
    show some s.1=(s.1::ps).getLast?
    have:=w.last
    cases ps with
    | nil=>simp at this
    | cons x ps=>rw [List.getLast?_cons_cons,this,hk]
   ·
    show 2≤(s.2.2::ns).length
    have h1:=w.len
    have h2:=w.head
    have h3:=w.last
    cases ps with
    | nil=>simp at h2
    | cons x ps=>
     cases ps with
     | nil=>simp at h2 h3;exact absurd (h2.symm.trans h3) hk2
     | cons y ps=>simp at h1 ⊢;omega
theorem o5 {L0:aY P N} {r:P} {pt:P→Prop} (W:iw L0 r pt) {met:List P} {used:List N} (I:Stt L0 r met used) (h:al L0 used≠[]) :
  ∃ s rest,(al L0 used).filter (fun s=>decide (s.1∈met))=s::rest:=by
 cases hc:(al L0 used).filter (fun s=>decide (s.1∈met)) with
 | cons s rest=>exact ⟨s,rest,rfl⟩
 | nil=>
  exfalso
  rw [List.filter_eq_nil_iff] at hc
  have hno:∀ s∈L0,s.2.2∉used→s.1∉met:=fun s hs hu=>by simpa using hc s (aH.2 ⟨hs,hu⟩)
  obtain ⟨t,ht⟩:=List.exists_mem_of_ne_nil _ h
  rw [aH] at ht
  refine hno t ht.1 ht.2 (W.conn (fun p=>p∈met) I.hr ?_ t.1 (W.ptm t ht.1))
  intro s hs h1
  by_cases hu:s.2.2∈used
  ·
   exact I.hu (turned s) (W.sym s hs) hu
  ·
   exact absurd h1 (hno s hs hu)
theorem gR {L:aY P N} {p:P}:(bW L p).length≤L.length:=List.length_filter_le _ _
theorem dq {L:aY P N} {ns:List N}:(al L ns).length≤L.length:=List.length_filter_le _ _
theorem way_ok {L0:aY P N} {met:List P} {used:List N} {s:P×P×N} {n:Nat} (hU:iV L0) (hne:∀ s∈L0,s.1≠s.2.1)
  (hs:s∈al L0 used) (hm:s.1∈met) (hn:L0.length+2≤n) :
  match dn n (al L0 used) met s with
  | some e=>Ear L0 met used e∧e.1.Nodup
  | none=>∃ S,Shut (bW (al L0 used) s.1) s.2.1 S∧∀ p∈S,p∉met:=by
 have hb:=iU (L:=bW (al L0 used) s.1) (a:=s.2.1) (ends:=met) (n:=n) (by have:=gR (L:=al L0 used) (p:=s.1);have:=dq (L:=L0) (ns:=used);omega)
 unfold dn
 cases hq:cE n (bW (al L0 used) s.1) s.2.1 met with
 | none=>rw [hq] at hb;exact hb
 | some w=>
  rw [hq] at hb
  obtain ⟨b,hb1,sw⟩:=hb
  have hsp:s.1∉w.1:=by
   have key:∀ {b:P} {ps:List P} {ns:List N},Sw (bW (al L0 used) s.1) met s.2.1 b ps ns→s.1∉ps:=by
    intro b ps ns h
    induction h with
    | nil=>simp;exact hne s (aH.1 hs).1
    | snoc h1 h2 _ _ ih=>simp;exact ⟨ih,(dd.1 h2).2.2⟩
   exact key sw
  have hsn:s.2.2∉w.2:=by
   intro h
   rw [←sw.names] at h
   obtain ⟨t,ht,e1⟩:=List.mem_map.1 h
   have q:=dd.1 (sw.step t ht).1
   rcases hU s (aH.1 hs).1 t (aH.1 q.1).1 e1.symm with e2 | e2
   ·
    rw [e2] at q;exact q.2.1 rfl
   ·
    rw [e2] at q;exact q.2.2 rfl
  simp only [Option.map_some]
  refine ⟨ear_of hU (fun t ht=>aH.1 ht) (fun t ht=>(dd.1 ht).1) hs hm hb1 sw hsn ?_ (.inl hsp),?_⟩
  ·
   intro p hp hpb
   rcases sw.inner p hp with h | h
   ·
    exact absurd h hpb
   ·
    exact h
  ·
   simp only [List.nodup_cons];exact ⟨hsp,sw.nodup⟩
theorem ring_ok {L0:aY P N} {r:P} {pt:P→Prop} (W:iw L0 r pt) {met:List P} {used:List N} (I:Stt L0 r met used) {s:P×P×N} {n:Nat}
  (hs:s∈al L0 used) (hm:s.1∈met) (hn:L0.length+2≤n) {S:List P} (hS:Shut (bW (al L0 used) s.1) s.2.1 S) (hSm:∀ p∈S,p∉met) :
  ∃ e,eS n (al L0 used) s=some e∧Ear L0 met used e∧(e.1.tail.Nodup∧e.1.head?=e.1.getLast?∧2≤e.2.length):=by
 have hb:=iU (L:=al (al L0 used) [s.2.2]) (a:=s.2.1) (ends:=[s.1]) (n:=n) (by have:=dq (L:=al L0 used) (ns:=[s.2.2]);have:=dq (L:=L0) (ns:=used);omega)
 have hs0:=aH.1 hs
 have hne:=W.ne s hs0.1
 unfold eS
 cases hq:cE n (al (al L0 used) [s.2.2]) s.2.1 [s.1] with
 | none=>
  rw [hq] at hb
  obtain ⟨S',t1,t2⟩:=hb
  exfalso
  have:=W.nobar s hs0.1 (fun p=>p∈S∧p∈S') ?_ ⟨hS.ha,t1.ha⟩
  ·
   exact t2 s.1 this.2 (by simp)
  ·
   intro t ht hn ⟨h1,h2⟩
   have hu:t.2.2∉used:=fun hu=>hSm t.1 h1 (I.hu t ht hu)
   have h3:t.2.1∈S':=t1.cl t (aH.2 ⟨aH.2 ⟨ht,hu⟩,by simpa using hn⟩) h2
   have h4:s.1≠t.2.1:=fun e=>t2 _ h3 (by simp [e])
   have h5:s.1≠t.1:=fun e=>t2 _ h2 (by simp [e])
   exact ⟨hS.cl t (dd.2 ⟨aH.2 ⟨ht,hu⟩,h5,h4⟩) h1,h3⟩
 | some w=>
  rw [hq] at hb
  obtain ⟨b,hb1,sw⟩:=hb
  simp at hb1
  subst hb1
  have key:∀ {c:P} {ps:List P} {ns:List N},Sw (al (al L0 used) [s.2.2]) [s.1] s.2.1 c ps ns→∀ p∈ps,p≠s.1→p∈S:=by
   intro c ps ns h
   induction h with
   | nil=>intro p hp _;simp at hp;rw [hp];exact hS.ha
   | @snoc b ps ns c n h1 h2 h3 h4 ih=>
    intro p hp hps
    simp at hp
    rcases hp with hp | hp
    ·
     exact ih p hp hps
    ·
     subst hp
     simp at h4
     exact hS.cl (b,p,n) (dd.2 ⟨(aH.1 h2).1,fun e=>h4 e.symm,fun e=>hps e.symm⟩) (ih b h1.memB h4)
  have hsn:s.2.2∉w.2:=by
   intro h
   rw [←sw.names] at h
   obtain ⟨t,ht,e1⟩:=List.mem_map.1 h
   have q:=aH.1 (sw.step t ht).1
   exact q.2 (by simp [e1])
  have E:=ear_of (met:=met) (used:=used) W.uniq (fun t ht=>aH.1 ht) (fun t ht=>(aH.1 ht).1) hs hm hm sw hsn (fun p hp hpb=>hSm p (key sw p hp hpb)) (.inr ⟨rfl,fun e=>hne e.symm⟩)
  refine ⟨_,rfl,E,?_⟩
  refine ⟨sw.nodup,?_,?_⟩
  ·
   show some s.1=(s.1::w.1).getLast?
   have:=sw.last
   cases hw:w.1 with
   | nil=>rw [hw] at this;simp at this
   | cons x ps=>rw [List.getLast?_cons_cons,←hw,this]
  ·
   have h1:=sw.len
   have h2:=sw.head
   have h3:=sw.last
   show 2≤(s.2.2::w.2).length
   cases hw:w.1 with
   | nil=>rw [hw] at h2;simp at h2
   | cons x ps=>
    rw [hw] at h1 h2 h3
    cases ps with
    | nil=>simp at h2 h3;exact absurd (h3.symm.trans h2) hne
    | cons y ps=>simp at h1 ⊢;omega
theorem next_ok {L0:aY P N} {r:P} {pt:P→Prop} (W:iw L0 r pt) {met:List P} {used:List N} (I:Stt L0 r met used) {n:Nat}
  (h:al L0 used≠[]) (hn:L0.length+2≤n):∃ e,dQ n (al L0 used) met=some e∧Ear L0 met used e:=by
 obtain ⟨s,rest,hf⟩:=o5 W I h
 have hs:s∈al L0 used∧decide (s.1∈met)=true:=(List.mem_filter (p:=fun s:P×P×N=>decide (s.1∈met))).1 (by rw [hf];simp)
 have hm:s.1∈met:=by simpa using hs.2
 unfold dQ
 rw [hf]
 have hw:=way_ok (n:=n) W.uniq W.ne hs.1 hm hn
 simp only
 cases hq:dn n (al L0 used) met s with
 | some e=>rw [hq] at hw;exact ⟨e,rfl,hw.1⟩
 | none=>
  rw [hq] at hw
  obtain ⟨S,s1,s2⟩:=hw
  obtain ⟨e,e1,e2,_⟩:=ring_ok W I hs.1 hm hn s1 s2
  exact ⟨e,e1,e2⟩
def aC (L:aY P N):List P→List N→List (Wlk P N)→Prop
 | _,_,[]=>True
 | met,used,e::es=>Ear L met used e∧aC L (met++e.1) (used++e.2) es
theorem Stt.next {L0:aY P N} {r:P} {pt:P→Prop} (W:iw L0 r pt) {met:List P} {used:List N} (I:Stt L0 r met used) {e:Wlk P N} (h:Ear L0 met used e) :
  Stt L0 r (met++e.1) (used++e.2):=by
 refine ⟨by simp [I.hr],?_⟩
 intro s hs hu
 rw [List.mem_append] at hu ⊢
 rcases hu with hu | hu
 ·
  exact .inl (I.hu s hs hu)
 ·
  right
  rw [←h.nm] at hu
  obtain ⟨t,ht,e1⟩:=List.mem_map.1 hu
  have q:=h.st t ht
  rcases W.uniq t q.1 s hs e1 with e2 | e2
  ·
   rw [e2];exact q.2.1
  ·
   rw [e2];exact q.2.2
theorem but_but {L:aY P N} {a b:List N}:al (al L a) b=al L (a++b):=by
 unfold al
 rw [List.filter_filter]
 congr 1
 funext s
 by_cases h1:s.2.2∈a <;> by_cases h2:s.2.2∈b <;> simp [h1,h2]
theorem but_lt {L:aY P N} {used:List N} {e:Wlk P N} {met:List P} (h:Ear L met used e):(al L (used++e.2)).length<(al L used).length:=by
 rw [←but_but]
 have hp:=h.pos
 cases hc:e.2 with
 | nil=>rw [hc] at hp;simp at hp
 | cons x xs=>
  have hx:x∈(aD e).map kz:=by rw [h.nm,hc];simp
  obtain ⟨t,ht,e1⟩:=List.mem_map.1 hx
  have hxu:x∉used:=h.fresh x (by rw [hc];simp)
  have:t∈al L used:=aH.2 ⟨(h.st t ht).1,by rw [show t.2.2=x from e1];exact hxu⟩
  exact List.length_filter_lt_length_iff_exists.2 ⟨t,this,by simp [show t.2.2=x from e1]⟩
theorem ears_ok {L0:aY P N} {r:P} {pt:P→Prop} (W:iw L0 r pt) {n:Nat} (hn:L0.length+2≤n):∀ (f:Nat) (met:List P) (used:List N) (acc:List (Wlk P N)),
  Stt L0 r met used→(al L0 used).length<f→
  ∃ es,cw n f (al L0 used) met acc=some (acc++es)∧aC L0 met used es∧al L0 (used++es.flatMap (·.2))=[]
 | 0,met,used,acc,I,hf=>by omega
 | f+1,met,used,acc,I,hf=>by
  unfold cw
  split
  ·
   rename_i h
   exact ⟨[],by simp,trivial,by simpa using h⟩
  ·
   rename_i h
   obtain ⟨e,e1,e2⟩:=next_ok W I h hn
   rw [e1]
   simp only
   obtain ⟨es,f1,f2,f3⟩:=ears_ok W hn f (met++e.1) (used++e.2) (acc++[e]) (I.next W e2) (by have:=but_lt e2;omega)
   rw [but_but,f1]
   exact ⟨e::es,by simp,⟨e2,f2⟩,by simpa using f3⟩
end
end Mx
end
section
set_option linter.all false
namespace Mx
section
variable {P N:Type} [DecidableEq P] [DecidableEq N]
theorem aC.names {L:aY P N}:∀ {es:List (Wlk P N)} {met:List P} {used:List N},aC L met used es→(es.flatMap (·.2)).Nodup∧∀ x∈es.flatMap (·.2),x∉used
 | [],_,_,_=>by simp
 | e::es,met,used,⟨h1,h2⟩=>by
  obtain ⟨i1,i2⟩:=aC.names h2
  simp only [List.flatMap_cons]
  rw [List.nodup_append]
  refine ⟨⟨h1.nd,i1,?_⟩,?_⟩
  ·
   intro a ha b hb e1
   subst e1
   exact i2 a hb (by simp [ha])
  ·
   intro x hx
   rw [List.mem_append] at hx
   rcases hx with hx | hx
   ·
    exact h1.fresh x hx
   ·
    intro hu;exact i2 x hx (by simp [hu])
theorem aC.steps {L:aY P N}:∀ {es:List (Wlk P N)} {met:List P} {used:List N},aC L met used es→∀ s∈es.flatMap aD,s∈L
 | [],_,_,_=>by simp
 | e::es,met,used,⟨h1,h2⟩=>by
  intro s hs
  simp only [List.flatMap_cons,List.mem_append] at hs
  rcases hs with hs | hs
  ·
   exact (h1.st s hs).1
  ·
   exact aC.steps h2 s hs
theorem aC.namesOf {L:aY P N}:∀ {es:List (Wlk P N)} {met:List P} {used:List N},aC L met used es→(es.flatMap aD).map kz=es.flatMap (·.2)
 | [],_,_,_=>by simp
 | e::es,met,used,⟨h1,h2⟩=>by
  simp only [List.flatMap_cons,List.map_append]
  rw [h1.nm,aC.namesOf h2]
theorem aC.stt {L:aY P N} {r:P} {pt:P→Prop} (W:iw L r pt):∀ {es:List (Wlk P N)} {met:List P} {used:List N},aC L met used es→Stt L r met used→
  Stt L r (met++es.flatMap (·.1)) (used++es.flatMap (·.2))
 | [],_,_,_,I=>by simpa using I
 | e::es,met,used,⟨h1,h2⟩,I=>by
  have:=aC.stt W h2 (I.next W h1)
  simpa using this
theorem ears_all {L:aY P N} {r:P} {pt:P→Prop} (W:iw L r pt) {es:List (Wlk P N)} (h:aC L [r] [] es) (hu:al L (es.flatMap (·.2))=[]) :
  (∀ s∈L,s.2.2∈es.flatMap (·.2))∧∀ p,pt p→p∈r::es.flatMap (·.1):=by
 have h1:∀ s∈L,s.2.2∈es.flatMap (·.2):=by
  intro s hs
  apply Classical.byContradiction
  intro hn
  have:s∈al L (es.flatMap (·.2)):=aH.2 ⟨hs,hn⟩
  rw [hu] at this
  simp at this
 refine ⟨h1,?_⟩
 have I:=aC.stt W h ⟨by simp,by simp⟩
 intro p hp
 refine W.conn (fun p=>p∈r::es.flatMap (·.1)) (by simp) ?_ p hp
 intro s hs _
 have:=I.hu (turned s) (W.sym s hs) (by rw [List.nil_append];exact h1 s hs)
 simpa [turned] using this
def Rch (O:P→P→Prop) (x y:P):Prop:=∀ Q:P→Prop,(∀ a b,O a b→Q a→Q b)→Q x→Q y
theorem Rch.rfl' {O:P→P→Prop} {x:P}:Rch O x x:=fun _ _ h=>h
theorem Rch.trans {O:P→P→Prop} {x y z:P} (h:Rch O x y) (h2:Rch O y z):Rch O x z:=fun Q hQ hx=>h2 Q hQ (h Q hQ hx)
theorem Rch.one {O:P→P→Prop} {x y:P} (h:O x y):Rch O x y:=fun Q hQ hx=>hQ x y h hx
theorem nV {O:P→P→Prop}:∀ {ps:List P} {ns:List N} {a b:P},ps.length=ns.length+1→(∀ s∈aD (ps,ns),O s.1 s.2.1)→ps.head?=some a→ps.getLast?=some b→
  ∀ p∈ps,Rch O a p∧Rch O p b
 | [],_,_,_,_,_,h,_=>by simp at h
 | [x],ns,a,b,_,_,h1,h2=>by
  simp at h1 h2
  subst h1;subst h2
  intro p hp
  simp at hp
  subst hp
  exact ⟨.rfl',.rfl'⟩
 | x::y::ps,[],a,b,h,_,_,_=>by simp at h
 | x::y::ps,n::ns,a,b,hl,hs,h1,h2=>by
  rw [ft (q:=y) rfl] at hs
  simp at h1
  subst h1
  rw [List.getLast?_cons_cons] at h2
  have ih:=nV (O:=O) (ps:=y::ps) (ns:=ns) (a:=y) (b:=b) (by simpa using hl) (fun s h=>hs s (by simp [h])) rfl h2
  have o1:Rch O x y:=.one (hs (x,y,n) (by simp))
  intro p hp
  rw [List.mem_cons] at hp
  rcases hp with rfl | hp
  ·
   exact ⟨.rfl',o1.trans (ih y (by simp)).2⟩
  ·
   exact ⟨o1.trans (ih p hp).1,(ih p hp).2⟩
theorem jf {L:aY P N} {r:P} {O:P→P→Prop}:∀ {es:List (Wlk P N)} {met:List P} {used:List N},aC L met used es→(∀ s∈es.flatMap aD,O s.1 s.2.1)→
  (∀ p∈met,Rch O r p∧Rch O p r)→∀ p∈met++es.flatMap (·.1),Rch O r p∧Rch O p r
 | [],_,_,_,_,h=>by simpa using h
 | e::es,met,used,⟨h1,h2⟩,ho,h=>by
  obtain ⟨a,a1,a2⟩:=h1.hd
  obtain ⟨b,b1,b2⟩:=h1.lt
  have hw:=nV (O:=O) (ps:=e.1) (ns:=e.2) h1.len (fun s hs=>ho s (by simp only [List.flatMap_cons,List.mem_append];exact .inl hs)) a1 b1
  have:=jf (r:=r) (O:=O) h2 (fun s hs=>ho s (by simp only [List.flatMap_cons,List.mem_append];exact .inr hs)) (by
   intro p hp
   rw [List.mem_append] at hp
   rcases hp with hp | hp
   ·
    exact h p hp
   ·
    exact ⟨(h a a2).1.trans (hw p hp).1,(hw p hp).2.trans (h b b2).2⟩)
  intro p hp
  exact this p (by simpa using hp)
theorem all_ears {L0:aY P N} {r:P} {pt:P→Prop} (W:iw L0 r pt) {n f:Nat} (hn:L0.length+2≤n) (hf:L0.length<f) (h0:L0≠[]) :
  ∃ e es,cw n f L0 [r] []=some (e::es)∧aC L0 [r] [] (e::es)∧al L0 ((e::es).flatMap (·.2))=[]:=by
 have hb:al L0 []=L0:=by simp [al]
 obtain ⟨es,f1,f2,f3⟩:=ears_ok W hn f [r] [] [] ⟨by simp,by simp⟩ (by rw [hb];exact hf)
 rw [hb] at f1
 simp at f1 f3
 cases es with
 | nil=>simp [hb] at f3;exact absurd f3 h0
 | cons e es=>exact ⟨e,es,f1,f2,by simpa using f3⟩
end
end Mx
end
section
set_option linter.all false
namespace Mx
section
variable {P:Type} [DecidableEq P]
def dF (p:P) (f:List P) (s:P×P):List P:=if s.1=p∧s.2∉f then f++[s.2] else f
def ga (L:List (P×P)) (p:P) (f:List P):List P:=L.foldl (dF p) f
def jg (L:List (P×P)):Nat→Nat→List P→List P
 | 0,_,f=>f
 | n+1,k,f=>match f[k]? with
  | none=>f
  | some p=>jg L n (k+1) (ga L p f)
def reach (n:Nat) (L:List (P×P)) (a:P):List P:=jg L n 0 [a]
structure RInv (L:List (P×P)) (a:P) (f:List P):Prop where
 nd:f.Nodup
 ha:a∈f
 sub:∀ p∈f,p=a∨∃ s∈L,s.2=p
 min:∀ Q:P→Prop,Q a→(∀ s∈L,Q s.1→Q s.2)→∀ p∈f,Q p
theorem iW {L0:List (P×P)} {a p:P}:∀ (L:List (P×P)) (f:List P),(∀ s∈L,s∈L0)→RInv L0 a f→p∈f→
  RInv L0 a (ga L p f)∧(∃ e,ga L p f=f++e)∧∀ s∈L,s.1=p→s.2∈ga L p f
 | [],f,_,I,_=>⟨I,⟨[],by simp [ga]⟩,by simp⟩
 | s::L,f,hL,I,hp=>by
  have e:ga (s::L) p f=ga L p (dF p f s):=rfl
  have h1:RInv L0 a (dF p f s)∧(∃ e,dF p f s=f++e)∧(s.1=p→s.2∈dF p f s):=by
   unfold dF
   split
   ·
    rename_i h
    refine ⟨⟨?_,by simp [I.ha],?_,?_⟩,⟨_,rfl⟩,by simp⟩
    ·
     rw [List.nodup_append]
     refine ⟨I.nd,by simp,?_⟩
     intro x hx y hy exy
     simp at hy
     subst hy;subst exy
     exact h.2 hx
    ·
     intro q hq
     simp at hq
     rcases hq with hq | hq
     ·
      exact I.sub q hq
     ·
      exact .inr ⟨s,hL s (by simp),hq.symm⟩
    ·
     intro Q q1 q2 q hq
     simp at hq
     rcases hq with hq | hq
     ·
      exact I.min Q q1 q2 q hq
     ·
      rw [hq];exact q2 s (hL s (by simp)) (by rw [h.1];exact I.min Q q1 q2 p hp)
   ·
    rename_i h
    refine ⟨I,⟨[],by simp⟩,?_⟩
    intro e1
    simp [e1] at h
    exact h
  obtain ⟨i1,⟨e1,j1⟩,i3⟩:=h1
  obtain ⟨k1,⟨f1,l1⟩,k3⟩:=iW (p:=p) L (dF p f s) (fun t ht=>hL t (by simp [ht])) i1 (by rw [j1];simp [hp])
  rw [e]
  refine ⟨k1,⟨e1++f1,by rw [l1,j1];simp⟩,?_⟩
  intro t ht et
  rw [List.mem_cons] at ht
  rcases ht with rfl | ht
  ·
   rw [l1];exact List.mem_append.2 (.inl (i3 et))
  ·
   exact k3 t ht et
structure mM (L:List (P×P)) (a:P) (f:List P):Prop extends RInv L a f where
 cl:∀ s∈L,s.1∈f→s.2∈f
theorem nW {L:List (P×P)} {a:P}:∀ (n k:Nat) (f:List P),RInv L a f→(∀ i,i<k→∀ p,f[i]?=some p→∀ s∈L,s.1=p→s.2∈f)→k≤f.length→L.length+2≤n+k→
  mM L a (jg L n k f)
 | 0,k,f,I,_,hk,hn=>by
  have h2:=List.Nodup.length_le_of_subset (l₂:=a::L.map (·.2)) I.nd (by
   intro p hp
   rcases I.sub p hp with e | ⟨s,hs,e⟩
   ·
    simp [e]
   ·
    simp only [List.mem_cons,List.mem_map];exact .inr ⟨s,hs,e⟩)
  simp at h2
  omega
 | n+1,k,f,I,hd,hk,hn=>by
  unfold jg
  split
  ·
   rename_i h
   rw [List.getElem?_eq_none_iff] at h
   refine { I with cl:=?_ }
   intro s hs hp
   obtain ⟨i,hi,e⟩:=List.mem_iff_getElem.1 hp
   exact hd i (by omega) s.1 (by simp [e,hi]) s hs rfl
  ·
   rename_i p h
   have hk2:k<f.length:=by
    rcases Nat.lt_or_ge k f.length with h' | h'
    ·
     exact h'
    ·
     rw [List.getElem?_eq_none h'] at h;simp at h
   obtain ⟨i1,⟨e1,j1⟩,i3⟩:=iW (p:=p) L f (fun _ h=>h) I (List.mem_of_getElem? h)
   apply nW n (k+1) _ i1
   ·
    intro i hi q hq
    rw [j1,List.getElem?_append_left (by omega)] at hq
    by_cases hik:i=k
    ·
     subst hik
     rw [h] at hq
     simp at hq
     subst hq
     exact i3
    ·
     intro s hs e2
     rw [j1]
     exact List.mem_append.2 (.inl (hd i (by omega) q hq s hs e2))
   ·
    rw [j1];simp;omega
   ·
    omega
theorem gb {L:List (P×P)} {a:P} {n:Nat} (h:L.length+2≤n):mM L a (reach n L a):=by
 apply nW
 ·
  exact ⟨by simp,by simp,by simp,by intro Q h _ p hp;simp at hp;rw [hp];exact h⟩
 ·
  intro i hi;omega
 ·
  simp
 ·
  omega
theorem reach_all {L:List (P×P)} {a:P} {n:Nat} (h:L.length+2≤n) {pts:List P} (hp:pts.Nodup) (hs:∀ p∈reach n L a,p∈pts) (hl:pts.length≤(reach n L a).length) :
  ∀ Q:P→Prop,Q a→(∀ s∈L,Q s.1→Q s.2)→∀ p∈pts,Q p:=by
 have R:=gb (a:=a) h
 intro Q q1 q2 p hpp
 apply R.min Q q1 q2
 apply Classical.byContradiction
 intro hn
 have:=List.Nodup.length_le_of_subset (l₁:=p::reach n L a) (l₂:=pts) (by simp only [List.nodup_cons];exact ⟨hn,R.nd⟩) (by
  intro x hx
  rw [List.mem_cons] at hx
  rcases hx with rfl | hx
  ·
   exact hpp
  ·
   exact hs x hx)
 simp at this
 omega
end
end Mx
end
section
set_option linter.all false
set_option Elab.async false
namespace Ew
open PySem PySem.Spec L2
structure Enc (α:Type) [DecidableEq α] where
 e:α→D
 k:Nat
 ok:∀ a,(e a).plain=true∧(e a).py.canLay0=true∧(e a).py.depth≤k
 eq:∀ a b,eqP (e a) (e b)=decide (a=b)
def Enc.int:Enc Int:=⟨.int,1,fun i=>by
 obtain ⟨a,b,c⟩:=bC (di i)
 exact ⟨a,b,by unfold D.py PyData.depth;omega⟩,jY⟩
section
variable {α β:Type} [DecidableEq α] [DecidableEq β]
theorem eqP_tup3 (a b c a' b' c':D):eqP (.tup [a,b,c]) (.tup [a',b',c'])=(eqP a a'&&(eqP b b'&&eqP c c')):=by
 simp only [eqP,D.py,pys,PyData.eqv,PyData.eqvAll,Bool.and_true]
theorem eqP_tup2 (a b a' b':D):eqP (.tup [a,b]) (.tup [a',b'])=(eqP a a'&&eqP b b'):=by
 simp only [eqP,D.py,pys,PyData.eqv,PyData.eqvAll,Bool.and_true]
theorem nX {k:Nat} {ds:List D} (h:∀ d∈ds,d.py.depth≤k):PyData.depthAll (pys ds)≤k:=f6 fun d hd=>by
 rw [ff] at hd
 obtain ⟨e,he,rfl⟩:=List.mem_map.mp hd
 exact h e he
theorem ok_tup {k:Nat} {ds:List D} (h:∀ d∈ds,d.plain=true∧d.py.canLay0=true∧d.py.depth≤k):(D.tup ds).plain=true∧(D.tup ds).py.canLay0=true∧(D.tup ds).py.depth≤k+1:=by
 refine ⟨?_,?_,?_⟩
 ·
  unfold D.plain;rw [gN];exact List.all_eq_true.mpr fun d hd=>(h d hd).1
 ·
  unfold D.py PyData.canLay0;rw [eJ,ff];exact List.all_eq_true.mpr fun d hd=>by
   obtain ⟨e,he,rfl⟩:=List.mem_map.mp hd
   exact (h e he).2.1
 ·
  unfold D.py PyData.depth
  have:=nX (k:=k) fun d hd=>(h d hd).2.2
  omega
def Enc.tri (A:Enc α) (B:Enc β):Enc (α×α×β):=⟨fun s=>.tup [A.e s.1,A.e s.2.1,B.e s.2.2],max A.k B.k+1,fun s=>ok_tup fun d hd=>by
 simp at hd
 rcases hd with rfl | rfl | rfl
 ·
  have:=A.ok s.1;exact ⟨this.1,this.2.1,by omega⟩
 ·
  have:=A.ok s.2.1;exact ⟨this.1,this.2.1,by omega⟩
 ·
  have:=B.ok s.2.2;exact ⟨this.1,this.2.1,by omega⟩,fun a b=>by
 rw [eqP_tup3,A.eq,A.eq,B.eq]
 rcases a with ⟨a1,a2,a3⟩
 rcases b with ⟨b1,b2,b3⟩
 simp⟩
def Enc.par (A:Enc α) (B:Enc β):Enc (α×β):=⟨fun s=>.tup [A.e s.1,B.e s.2],max A.k B.k+1,fun s=>ok_tup fun d hd=>by
 simp at hd
 rcases hd with rfl | rfl
 ·
  have:=A.ok s.1;exact ⟨this.1,this.2.1,by omega⟩
 ·
  have:=B.ok s.2;exact ⟨this.1,this.2.1,by omega⟩,fun a b=>by
 rw [eqP_tup2,A.eq,B.eq]
 rcases a with ⟨a1,a2⟩
 rcases b with ⟨b1,b2⟩
 simp⟩
variable (A:Enc α)
theorem Enc.okD (h:A.k≤16) (a:α):Ew.okD (A.e a)=true:=by
 obtain ⟨p,q,r⟩:=A.ok a
 unfold Ew.okD
 rw [p,q]
 simp
 omega
theorem Enc.okL (h:A.k≤15) (as:List α):Ew.okD (.lst (as.map A.e))=true:=nN fun d hd=>by
 obtain ⟨a,_,rfl⟩:=List.mem_map.mp hd
 obtain ⟨p,q,r⟩:=A.ok a
 exact ⟨p,q,by omega⟩
theorem Enc.oEq (h:A.k≤15) (a b:α):Ew.oEq (A.e a) (A.e b)=some (.sh (.bl (decide (a=b)))):=by
 unfold Ew.oEq
 rw [if_pos ⟨A.okD (by omega) a,A.okD (by omega) b⟩,A.eq]
theorem Enc.any (a:α) (as:List α):((as.map A.e).any fun y=>eqP y (A.e a))=decide (a∈as):=by
 induction as with
 | nil=>rfl
 | cons b as ih=>
  simp only [List.map_cons,List.any_cons,ih,A.eq]
  by_cases h:b=a
  ·
   subst h;simp
  ·
   have h2:¬a=b:=fun e=>h e.symm
   simp [h,h2]
theorem Enc.oIn (h:A.k≤15) (a:α) (as:List α):Ew.oIn (A.e a) (.lst (as.map A.e))=some (.sh (.bl (decide (a∈as)))):=by
 show (if Ew.okD (A.e a)=true∧Ew.okD (D.lst (List.map A.e as))=true then some (R.sh (D.bl ((as.map A.e).any fun y=>eqP y (A.e a)))) else none)=_
 rw [if_pos ⟨A.okD (by omega) a,A.okL h as⟩,A.any]
theorem Enc.oNotIn (h:A.k≤15) (a:α) (as:List α):Ew.oNotIn (A.e a) (.lst (as.map A.e))=some (.sh (.bl (!decide (a∈as)))):=by
 show (if Ew.okD (A.e a)=true∧Ew.okD (D.lst (List.map A.e as))=true then some (R.sh (D.bl (!(as.map A.e).any fun y=>eqP y (A.e a)))) else none)=_
 rw [if_pos ⟨A.okD (by omega) a,A.okL h as⟩,A.any]
theorem Enc.oEqL (h:A.k≤15) (as bs:List α):Ew.oEq (.lst (as.map A.e)) (.lst (bs.map A.e))=some (.sh (.bl (decide (as=bs)))):=by
 unfold Ew.oEq
 rw [if_pos ⟨A.okL h as,A.okL h bs⟩]
 congr 3
 have key:∀ as bs:List α,PyData.eqvAll (pys (as.map A.e)) (pys (bs.map A.e))=decide (as=bs):=by
  intro as
  induction as with
  | nil=>intro bs;cases bs <;> simp [pys,PyData.eqvAll]
  | cons a as ih=>
   intro bs
   cases bs with
   | nil=>simp [pys,PyData.eqvAll]
   | cons b bs=>
    simp only [List.map_cons,pys,PyData.eqvAll,ih]
    have:=A.eq a b
    unfold eqP at this
    rw [this]
    simp
 unfold eqP D.py PyData.eqv
 exact key as bs
end
theorem atIlast {α:Type} (xs:List α):atI xs (-1)=xs.getLast?:=by
 unfold atI ixN
 cases xs with
 | nil=>simp
 | cons x xs=>
  have h1:¬((0:Int)≤-1):=by omega
  have h2:-((x::xs).length:Int)≤-1:=by simp;omega
  rw [if_neg h1,if_pos h2]
  have e:((-1:Int)+((x::xs).length:Nat)).toNat=(x::xs).length-1:=by simp;omega
  show (x::xs)[_]?=_
  rw [e,List.getLast?_eq_getElem?]
theorem atIn {α:Type} (xs:List α) (i:Nat):atI xs (i:Int)=xs[i]?:=by
 unfold atI ixN
 rw [if_pos (by omega)]
 by_cases h:i<xs.length
 ·
  rw [if_pos (by omega)];rfl
 ·
  rw [if_neg (by omega),List.getElem?_eq_none (by omega)];rfl
theorem cQ {α:Type} (xs:List α):atI xs 0=xs[0]?:=atIn xs 0
theorem cX {α:Type} (xs:List α):atI xs 1=xs[1]?:=atIn xs 1
theorem atI_2 {α:Type} (xs:List α):atI xs 2=xs[2]?:=atIn xs 2
theorem getLast?_map' {α β:Type} (f:α→β) (xs:List α):(xs.map f).getLast?=xs.getLast?.map f:=by
 rw [List.getLast?_eq_getElem?,List.getLast?_eq_getElem?,List.getElem?_map,List.length_map]
end Ew
end
section
set_option Elab.async false
set_option linter.all false
set_option maxRecDepth 100000
set_option maxHeartbeats 4000000
namespace Pg
open PySem PySem.Spec L2 Ew
def top (i:Nat):Stmt:=PySem.Challenge.pw_earworks_k03_whole_turned.main.body.getD i (.Pass ⟨0,0,0,0⟩)
structure CA where
 Answer:Addr
 Bar:Addr
 Ears:Addr
 Turned:Addr
 Web:Addr
def de (c:CA):D→Option Bool:=isT [(c.Bar,true),(c.Ears,true),(c.Turned,true),(c.Web,false)]
def dG (c:CA):D→Option Bool:=isT [(c.Bar,true),(c.Ears,false),(c.Turned,false),(c.Web,false)]
def fu (c:CA):D→Option Bool:=isT [(c.Bar,false),(c.Ears,true),(c.Turned,false),(c.Web,false)]
def cj (c:CA):D→Option Bool:=isT [(c.Bar,false),(c.Ears,false),(c.Turned,true),(c.Web,false)]
def kB (c:CA):D→Option Bool:=isT [(c.Bar,false),(c.Ears,false),(c.Turned,false),(c.Web,true)]
structure Txt (K:PySem.W.Frag) (mg:Str→Option Value) (c:CA) where
 b1_:Cd K mg c.Answer "Answer"
 l_:Cd K mg c.Bar "Bar"
 j_:Cd K mg c.Ears "Ears"
 n_:Cd K mg c.Turned "Turned"
 d_:Cd K mg c.Web "Web"
 m_:NoAttr K c.Bar "points"
 k_:NoAttr K c.Ears "ears"
 o_:NoAttr K c.Turned "begins"
 h_:NoAttr K c.Web "pairs"
 e_:NoAttr K c.Web "points"
 q_:mg "all" = none
 a_:mg "bool" = none
 r_:mg "enumerate" = none
 c_:mg "int" = none
 b_:mg "isinstance" = none
 i_:mg "len" = none
 f_:mg "list" = none
 y_:mg "max" = none
 z_:mg "min" = none
 g_:mg "range" = none
 w_:mg "sorted" = none
 s_:mg "tuple" = none
 p_:mg "zip" = none
 t_:∃ t,mg "MOST_POINTS" = some (.int 8 t)
 u_:∃ t,mg "MOST_TIES" = some (.int 14 t)
 e1_:∀ fs,TyD K (.obj c.Bar fs) (.ref c.Bar)
 f1_:∀ fs,TyD K (.obj c.Ears fs) (.ref c.Ears)
 g1_:∀ fs,TyD K (.obj c.Turned fs) (.ref c.Turned)
 h1_:∀ fs,TyD K (.obj c.Web fs) (.ref c.Web)
 i1_:PySem.W.kitOne K (.ref c.Bar) (.ref c.Answer)=some true
 j1_:PySem.W.kitOne K (.ref c.Ears) (.ref c.Answer)=some true
 k1_:PySem.W.kitOne K (.ref c.Turned) (.ref c.Answer)=some true
 l1_:PySem.W.kitOne K (.ref c.Web) (.ref c.Answer)=some false
 m1_:PySem.W.kitOne K (.ref c.Ears) (.ref c.Bar)=some false
 n1_:PySem.W.kitOne K (.ref c.Turned) (.ref c.Bar)=some false
 o1_:PySem.W.kitOne K (.ref c.Web) (.ref c.Bar)=some false
 p1_:PySem.W.kitOne K (.ref c.Bar) (.ref c.Ears)=some false
 q1_:PySem.W.kitOne K (.ref c.Turned) (.ref c.Ears)=some false
 r1_:PySem.W.kitOne K (.ref c.Web) (.ref c.Ears)=some false
 s1_:PySem.W.kitOne K (.ref c.Bar) (.ref c.Turned)=some false
 t1_:PySem.W.kitOne K (.ref c.Ears) (.ref c.Turned)=some false
 u1_:PySem.W.kitOne K (.ref c.Web) (.ref c.Turned)=some false
 v1_:PySem.W.kitOne K (.ref c.Bar) (.ref c.Web)=some false
 w1_:PySem.W.kitOne K (.ref c.Ears) (.ref c.Web)=some false
 x1_:PySem.W.kitOne K (.ref c.Turned) (.ref c.Web)=some false
 ne:c.Bar≠c.Ears∧c.Bar≠c.Turned∧c.Bar≠c.Web∧c.Ears≠c.Turned∧c.Ears≠c.Web∧c.Turned≠c.Web
 z1_:Fd K mg "is_number" (top 2) ["value"]
 a2_:Fd K mg "has_point" (top 4) ["web", "point"]
 b2_:Fd K mg "all_points" (top 5) ["web"]
 c2_:Fd K mg "is_point_set" (top 6) ["web", "points"]
 d2_:Fd K mg "other_end" (top 8) ["tie", "point"]
 e2_:Md K c.Web "ties" "Web.ties" (inClass (top 40) 1) ["self"]
 f2_:Fd K mg "points_left_to" (top 9) ["web", "points"]
 g2_:Fd K mg "backwards" (top 10) ["steps"]
 h2_:Fd K mg "reached" (top 11) ["begin", "steps"]
 i2_:Fd K mg "copied_walks" (top 16) ["walks"]
 j2_:Ni K c.Ears "Ears.__init__" (inClass (top 20) 0) ["self", "ears"]
 k2_:Ni K c.Bar "Bar.__init__" (inClass (top 21) 0) ["self", "points"]
 l2_:Md K c.Bar "shows" "Bar.shows" (inClass (top 21) 1) ["self", "web"]
 m2_:Ni K c.Turned "Turned.__init__" (inClass (top 22) 0) ["self", "begins"]
 n2_:Md K c.Turned "shows" "Turned.shows" (inClass (top 22) 1) ["self", "web"]
 o2_:Fd K mg "steps_of" (top 28) ["web"]
 p2_:Fd K mg "steps_beside" (top 29) ["steps", "point"]
 q2_:Fd K mg "steps_but" (top 30) ["steps", "names"]
 r2_:Fd K mg "shortest_walk" (top 31) ["steps", "begin", "ends"]
 s2_:Fd K mg "step_and_walk" (top 32) ["step", "walk"]
 t2_:Fd K mg "way_over" (top 33) ["steps", "met", "step"]
 u2_:Fd K mg "ring_over" (top 34) ["steps", "step"]
 v2_:Fd K mg "steps_in" (top 35) ["walk"]
 w2_:Fd K mg "is_tie" (top 39) ["value", "points"]
 x2_:Ni K c.Web "Web.__init__" (inClass (top 40) 0) ["self", "points", "ties"]
 y2_:Fd K mg "refuse_fewer" (top 42) ["web", "least"]
 z2_:Fd K mg "points_behind_a_bar" (top 43) ["web"]
 a3_:Fd K mg "next_ear" (top 44) ["steps", "met"]
 b3_:Fd K mg "all_ears" (top 45) ["web"]
 c3_:Fd K mg "begins_along" (top 46) ["web", "ears"]
 d3_:Fd K mg "eared" (top 47) ["web"]
 e3_:Fd K mg "turned" (top 48) ["web"]
 f3_:Fd K mg "_law_cell_at" (top 50) ["_law_script", "_law_k"]
 g3_:Fd K mg "_law_draw" (top 51) ["_law_cell", "_law_k", "_law_many"]
 h3_:Fd K mg "_law_told" (top 52) ["_law_cell", "_law_least"]
 i3_:Fd K mg "_law_leaving" (top 53) ["_law_ties", "_law_some"]
 j3_:Fd K mg "_law_rising" (top 54) ["_law_some", "_law_points"]
 k3_:Fd K mg "_law_reached" (top 55) ["_law_told_here", "_law_begins", "_law_start"]
 l3_:Fd K mg "_law_turned_right" (top 56) ["_law_told_here", "_law_begins"]
 law:Fl' K mg (top 57)
theorem Txt.go {K:PySem.W.Frag} {mg:Str→Option Value} {aAnswer aBar aEars aTurned aWeb:Addr} (T:Txt K mg ⟨aAnswer,aBar,aEars,aTurned,aWeb⟩):∃ c,Nonempty (Txt K mg c):=⟨_,⟨T⟩⟩
noncomputable section
variable {P:Program} {w:World} {K:PySem.W.Frag} {mg:Str→Option Value} {base:Heap} {c:CA} (T:Txt K mg c)
theorem K_Answer (T:Txt K mg c):Ka K (de c) c.Answer:=bb T.e1_ T.i1_ (bb T.f1_ T.j1_ (bb T.g1_ T.k1_ (bb T.h1_ T.l1_ kx)))
theorem K_Bar (T:Txt K mg c):Ka K (dG c) c.Bar:=bb T.e1_ ip (bb T.f1_ T.m1_ (bb T.g1_ T.n1_ (bb T.h1_ T.o1_ kx)))
theorem K_Ears (T:Txt K mg c):Ka K (fu c) c.Ears:=bb T.e1_ T.p1_ (bb T.f1_ ip (bb T.g1_ T.q1_ (bb T.h1_ T.r1_ kx)))
theorem nY (T:Txt K mg c):Ka K (cj c) c.Turned:=bb T.e1_ T.s1_ (bb T.f1_ T.t1_ (bb T.g1_ ip (bb T.h1_ T.u1_ kx)))
theorem K_Web (T:Txt K mg c):Ka K (kB c) c.Web:=bb T.e1_ T.v1_ (bb T.f1_ T.w1_ (bb T.g1_ T.x1_ (bb T.h1_ ip kx)))
def jh (c:CA):FS:=(aT ((dand (ax dX (ab 0)) (dnot (ax is_bool (ab 0))))))
def cK (c:CA):List D→Option D:=run 1 (jh c)
theorem fv:Ok P w mg base 1 T.z1_.toFb (spD 1 (cK c)):=fD [] fun _ _ _ _ _ _ hr nd=>
 (ak (aK ((ml (ii_int dv T.c_ T.b_) (de_one (de_not (mH dv T.a_ T.b_)))))))
def iz (c:CA):FS:=(aT (ie (aa (bE (isC c.Web) "points" (ab 0)) af)))
def cR (c:CA):List D→Option D:=run 1 (iz c)
theorem li:Ok P w mg base 1 T.b2_.toFb (spD 1 (cR c)):=fD [] fun _ _ _ _ _ _ hr nd=>
 (ak (aK (nI rfl (d1 (df dv T.d_.cls T.e_)) rfl T.f_ rfl T.g_)))
def kC (c:CA):FS:=(aT (ad oEq (ab 1) (bZ (aZ (ay 1 (cR c) (aa (ab 0) af))) (am 0) (aj (ad oIn (ab 0) (ab 1))) (ab 0) 1 [1])))
def cS (c:CA):List D→Option D:=run 2 (kC c)
theorem jw:Ok P w mg base 2 T.c2_.toFb (spD 2 (cS c)):=fD [] fun _ _ _ _ _ _ hr nd=>
 (ak (aK (c_eq dv (dc ["point", "points"] (bG (du (li T) hr (d1 dv))) (fun nd _ _ _ _ _=>⟨(gn nd),(eN (t_in dv dv hr)),dv⟩)) hr)))
def ji (c:CA):FS:=(aT (dif (aj (ad oEq (ab 1) (ad oIx (ab 0) (ac (.int 0))))) (ad oIx (ab 0) (ac (.int 1))) (ad oIx (ab 0) (ac (.int 0)))))
def ca (c:CA):List D→Option D:=run 2 (ji c)
theorem mN:Ok P w mg base 1 T.d2_.toFb (spD 2 (ca c)):=fD [] fun _ _ _ _ _ _ hr nd=>
 (ak (aK (ni (t_eq dv (dx dv ae) hr) (dx dv ae) (dx dv ae))))
def kD (c:CA):FS:=(aT (az gw (aa (bE (isC c.Web) "pairs" (ab 0)) af)))
def aV (c:CA):List D→Option D:=run 1 (kD c)
theorem cL:Ok P w mg base 1 T.e2_.toFb (spD 1 (aV c)):=fD [] fun _ _ _ _ _ _ hr nd=>
 (ak (aK (de_t1 kj PyProof.Rows.boot_list T.f_ (d1 (df dv T.d_.cls T.h_)))))
def iX (c:CA):FS:=(ar (sset 2 (bZ (aZ ((bH c.Web "ties" 1 (aV c) (ab 0) af))) (am 0) (aj (ad oNe (ad oIn (ad oIx (ab 0) (ac (.int 0))) (ab 1)) (ad oIn (ad oIx (ab 0) (ac (.int 1))) (ab 1)))) (ab 0) 1 [1])) (sfrz 2 (aT (bZ (aZ (ab 2)) (am 0) eH (dif (aj (ad oIn (ad oIx (ab 0) (ac (.int 0))) (ab 1))) (ad oIx (ab 0) (ac (.int 1))) (ad oIx (ab 0) (ac (.int 0)))) 1 [1]))))
def ck (c:CA):List D→Option D:=run 3 (iX c)
theorem iA:Ok P w mg base 2 T.f2_.toFb (spD 2 (ck c)):=fD ["leaving"] fun _ _ _ _ _ _ hr nd=>
 (ai (sc ["tie", "points"] nd (bG ((dm0 T.d_.cls (cL T) hr dv))) (fun nd _ _ _ _ _=>⟨(gn nd),(eN (t_ne (c_in (dx dv ae) dv hr) (c_in (dx dv ae) dv hr) hr)),dv⟩)) (ak (gK (aK (dc ["tie", "points"] (bG dv) (fun nd _ _ _ _ _=>⟨(gn nd),dz,(ni (t_in (dx dv ae) dv hr) (dx dv ae) (dx dv ae))⟩))))))
def nZ (c:CA):FS:=(aT (bZ (aZ (ab 0)) (am 0) eH (cg (aa (ad oIx (ab 0) (ac (.int 1))) (aa (ad oIx (ab 0) (ac (.int 0))) af))) 1 []))
def gc (c:CA):List D→Option D:=run 1 (nZ c)
theorem mO:Ok P w mg base 1 T.g2_.toFb (spD 1 (gc c)):=fD [] fun _ _ _ _ _ _ hr nd=>
 (ak (aK (dc ["step"] (bG dv) (fun nd _ _ _ _ _=>⟨(gn nd),dz,(c8 (ah (dx dv ae) (d1 (dx dv ae))))⟩))))
def lJ (c:CA):FS:=(ar (sset 2 (cf (aa (ab 0) af))) (ar (sset 3 (ac (.int 0))) (ar (cH (aj (ad oLt (ab 3) (az bx (aa (ab 2) af)))) (ar (bB (aZ (ab 1)) (am 4) (sif ((dW (aj (ad oEq (ad oIx (ab 4) (ac (.int 0))) (ad oIx (ab 2) (ab 3)))) (aj (ad oNotIn (ad oIx (ab 4) (ac (.int 1))) (ab 2))))) (cD 2 (ad oIx (ab 4) (ac (.int 1)))) aI)) (ju (·+·) 3 (ac (.int 1)))) 100) (h9 2))))
def bT (c:CA):List D→Option D:=run 5 (lJ c)
theorem gS:Ok P w mg base 1 T.h2_.toFb (spD 2 (bT c)):=fD ["found", "place", "step"] fun _ _ _ _ _ _ hr nd=>
 (ai (sA nd (bN (d1 dv))) (ai (sA nd ae) (ai (sw (tc2 c9 dv (cJ T.i_ dv)) (ai (sf (bG dv) (gn nd) (ak (i0 (t_and (t_eq (dx dv ae) (dx dv dv) hr) (t_ni (dx dv ae) dv hr)) (ak (ci (pv 2) (dx dv ae)))))) (ak (sg nd ae ip_add)))) (ak (jT (pv 2))))))
def gd (c:CA):FS:=(il (kq (aZ (ab 0)) (am 0) eH (ntup (da (dC (az gw (aa (ad oIx (ab 0) (ac (.int 0))) af))) (da (dC (az gw (aa (ad oIx (ab 0) (ac (.int 1))) af))) ko))) 1 []))
def cT (c:CA):List D→Option D:=runN 1 (gd c)
theorem jx:Ok P w mg base 1 T.i2_.toFb (spN 1 (cT c)):=fN [] fun _ _ _ _ _ _ hr nd=>
 (ak (f7 (nc ["walk"] (bG dv) (fun nd _ _ _ _ _=>⟨(gn nd),dz,(dn_tup (eQ (dl (de_t1 kj PyProof.Rows.boot_list T.f_ (d1 (dx dv ae)))) (eQ (dl (de_t1 kj PyProof.Rows.boot_list T.f_ (d1 (dx dv ae)))) mD)))⟩))))
def fJ (c:CA):FS:=(kr c.Ears "ears" (cP 1 (cT c) (aa (ab 1) af)))
def dH (c:CA):List D→Option (List (Str×D)):=fun ds=>unif fun p=>f8 2 c.Ears (fJ c) ds p
theorem iY:Ok P w mg base 2 T.j2_.toFb (spIN c.Ears 1 (dH c)):=fI [] fun _ _ _ _ _ _ hr nd=>
 (ak (im (C:=c.Ears) (pv 0) (nu (jx T) hr (d1 dv)) ⟨T.j_.cls,T.k_⟩))
def ge (c:CA):FS:=(kr c.Bar "points" (dC (az gw (aa (ab 1) af))))
def dZ (c:CA):List D→Option (List (Str×D)):=fun ds=>unif fun p=>f8 2 c.Bar (ge c) ds p
theorem jy:Ok P w mg base 1 T.k2_.toFb (spIN c.Bar 1 (dZ c)):=fI [] fun _ _ _ _ _ _ hr nd=>
 (ak (im (C:=c.Bar) (pv 0) (dl (de_t1 kj PyProof.Rows.boot_list T.f_ (d1 dv))) ⟨T.l_.cls,T.m_⟩))
def gf (c:CA):FS:=(ar (sif ((cq (bh (aj (ay 2 (cS c) (aa (ab 1) (aa (bE (isC c.Bar) "points" (ab 0)) af))))) (bh (aj (cO oLt oLt (ac (.int 0)) (az bx (aa (bE (isC c.Bar) "points" (ab 0)) af)) (bE (isC c.Web) "points" (ab 1))))))) (aT (ac (.bl false))) aI) (aT (ad oLe (az bx (aa (ay 2 (ck c) (aa (ab 1) (aa (bE (isC c.Bar) "points" (ab 0)) af))) af)) (ac (.int 1)))))
def bJ (c:CA):List D→Option D:=run 2 (gf c)
theorem iB:Ok P w mg base 3 T.l2_.toFb (spD 2 (bJ c)):=fD [] fun _ _ _ _ _ _ hr nd=>
 (ai (i0 (t_or (bV (bL (du (jw T) hr (ah dv (d1 (df dv T.l_.cls T.m_)))))) (bV (hX c9 c9 ae (cJ T.i_ (df dv T.l_.cls T.m_)) (df dv T.d_.cls T.e_)))) (ak (aK dA))) (ak (aK (dc2 mq (cJ T.i_ (du (iA T) hr (ah dv (d1 (df dv T.l_.cls T.m_))))) ae))))
def eC (c:CA):FS:=(kr c.Turned "begins" (dC (az gw (aa (ab 1) af))))
def cU (c:CA):List D→Option (List (Str×D)):=fun ds=>unif fun p=>f8 2 c.Turned (eC c) ds p
theorem gT:Ok P w mg base 1 T.m2_.toFb (spIN c.Turned 1 (cU c)):=fI [] fun _ _ _ _ _ _ hr nd=>
 (ak (im (C:=c.Turned) (pv 0) (dl (de_t1 kj PyProof.Rows.boot_list T.f_ (d1 dv))) ⟨T.n_.cls,T.o_⟩))
def kE (c:CA):FS:=(ar (sset 2 ((bH c.Web "ties" 1 (aV c) (ab 1) af))) (ar (sif (aj (ad oNe (az bx (aa (bE (isC c.Turned) "begins" (ab 0)) af)) (az bx (aa (ab 2) af)))) (aT (ac (.bl false))) aI) (ar (sif (bh (aj (az oAll (aa (bZ (gM (aa (bE (isC c.Turned) "begins" (ab 0)) (aa (ab 2) af))) (eG 2 (aX (am 0) (aX (am 1) eM))) eH (ad oIn (ab 0) (ab 1)) 2 []) af)))) (aT (ac (.bl false))) aI) (ar (sset 3 (bZ (gM (aa (bE (isC c.Turned) "begins" (ab 0)) (aa (ab 2) af))) (eG 2 (aX (am 0) (aX (am 1) eM))) eH (cg (aa (ab 0) (aa (ay 2 (ca c) (aa (ab 1) (aa (ab 0) af))) af))) 2 [])) (sfrz 3 (aT ((dand (ad oEq (az bx (aa (ay 2 (bT c) (aa (ac (.int 0)) (aa (ab 3) af))) af)) (bE (isC c.Web) "points" (ab 1))) (ad oEq (az bx (aa (ay 2 (bT c) (aa (ac (.int 0)) (aa (ay 1 (gc c) (aa (ab 3) af)) af))) af)) (bE (isC c.Web) "points" (ab 1)))))))))))
def bp (c:CA):List D→Option D:=run 4 (kE c)
theorem fK:Ok P w mg base 2 T.n2_.toFb (spD 2 (bp c)):=fD ["ties", "steps"] fun _ _ _ _ _ _ hr nd=>
 (ai (sA nd ((dm0 T.d_.cls (cL T) hr dv))) (ai (i0 (t_ne (cJ T.i_ (df dv T.n_.cls T.o_)) (cJ T.i_ dv) hr) (ak (aK dA))) (ai (i0 (bV (bL (b_all T.q_ (dc ["begin", "tie"] (my rfl T.p_ (ah (df dv T.n_.cls T.o_) (d1 dv))) (fun nd _ _ _ _ _=>⟨(g2 (gn nd) (gn nd)),dz,(c_in dv dv hr)⟩))))) (ak (aK dA))) (ai (sc ["begin", "tie"] nd (my rfl T.p_ (ah (df dv T.n_.cls T.o_) (d1 dv))) (fun nd _ _ _ _ _=>⟨(g2 (gn nd) (gn nd)),dz,(c8 (ah dv (d1 (du (mN T) hr (ah dv (d1 dv))))))⟩)) (ak (gK (aK ((ml (c_eq (cJ T.i_ (du (gS T) hr (ah ae (d1 dv)))) (df dv T.d_.cls T.e_) hr) (de_one (c_eq (cJ T.i_ (du (gS T) hr (ah ae (d1 (du (mO T) hr (d1 dv)))))) (df dv T.d_.cls T.e_) hr)))))))))))
def o6 (c:CA):FS:=(ar (sset 1 (cf af)) (ar (bB (ienum (aa ((bH c.Web "ties" 1 (aV c) (ab 0) af)) af)) (eG 2 (aX (am 2) (aX (am 3) eM))) (ar (cD 1 (cg (aa (ad oIx (ab 3) (ac (.int 0))) (aa (ad oIx (ab 3) (ac (.int 1))) (aa (ab 2) af))))) (cD 1 (cg (aa (ad oIx (ab 3) (ac (.int 1))) (aa (ad oIx (ab 3) (ac (.int 0))) (aa (ab 2) af))))))) (h9 1)))
def cF (c:CA):List D→Option D:=run 4 (o6 c)
theorem jj:Ok P w mg base 2 T.o2_.toFb (spD 1 (cF c)):=fD ["steps", "place", "tie"] fun _ _ _ _ _ _ hr nd=>
 (ai (sA nd (bN iO)) (ai (sf (di_enum rfl T.r_ (d1 ((dm0 T.d_.cls (cL T) hr dv)))) (g2 (gn nd) (gn nd)) (ai (ci (pv 1) (c8 (ah (dx dv ae) (ah (dx dv ae) (d1 dv))))) (ak (ci (pv 1) (c8 (ah (dx dv ae) (ah (dx dv ae) (d1 dv)))))))) (ak (jT (pv 1)))))
def kF (c:CA):FS:=(aT (bZ (aZ (ab 0)) (am 0) (aj (ad oNotIn (ab 1) (dslT (ab 0) ic (gB (ac (.int 2)))))) (ab 0) 1 [1]))
def d0 (c:CA):List D→Option D:=run 2 (kF c)
theorem jz:Ok P w mg base 1 T.p2_.toFb (spD 2 (d0 c)):=fD [] fun _ _ _ _ _ _ hr nd=>
 (ak (aK (dc ["step", "point"] (bG dv) (fun nd _ _ _ _ _=>⟨(gn nd),(eN (t_ni dv (de_slT dv mw (mx ae)) hr)),dv⟩))))
def n4 (c:CA):FS:=(aT (bZ (aZ (ab 0)) (am 0) (aj (ad oNotIn (ad oIx (ab 0) (ac (.int 2))) (ab 1))) (ab 0) 1 [1]))
def bn (c:CA):List D→Option D:=run 2 (n4 c)
theorem fw:Ok P w mg base 1 T.q2_.toFb (spD 2 (bn c)):=fD [] fun _ _ _ _ _ _ hr nd=>
 (ak (aK (dc ["step", "names"] (bG dv) (fun nd _ _ _ _ _=>⟨(gn nd),(eN (t_ni (dx dv ae) dv hr)),dv⟩))))
def dI (c:CA):FS:=(ar (sset 3 (cf (aa (cg (aa (cf (aa (ab 1) af)) (aa (cf af) af))) af))) (ar (sset 4 (cf (aa (ab 1) af))) (ar (sset 5 (ac (.int 0))) (ar (cH (aj (ad oLt (ab 5) (az bx (aa (ab 3) af)))) (ar (sset 6 (ad oIx (ad oIx (ab 3) (ab 5)) (ac (.int 0)))) (ar (sif (aj (ad oIn (ad oIx (ab 6) (dun ig (ac (.int 1)))) (ab 2))) (aT (ad oIx (ab 3) (ab 5))) aI) (ar (bB (aZ (ab 0)) (am 7) (sif ((dW (aj (ad oEq (ad oIx (ab 7) (ac (.int 0))) (ad oIx (ab 6) (dun ig (ac (.int 1)))))) (aj (ad oNotIn (ad oIx (ab 7) (ac (.int 1))) (ab 4))))) (ar (cD 4 (ad oIx (ab 7) (ac (.int 1)))) (cD 3 (cg (aa (ad bI (ab 6) (cf (aa (ad oIx (ab 7) (ac (.int 1))) af))) (aa (ad bI (ad oIx (ad oIx (ab 3) (ab 5)) (ac (.int 1))) (cf (aa (ad oIx (ab 7) (ac (.int 2))) af))) af))))) aI)) (ju (·+·) 5 (ac (.int 1)))))) 100) (aT (ac .non))))))
def bu (c:CA):List D→Option D:=run 8 (dI c)
theorem eT:Ok P w mg base 1 T.r2_.toFb (spD 3 (bu c)):=fD ["walks", "met", "place", "points", "step"] fun _ _ _ _ _ _ hr nd=>
 (ai (sA nd (bN (d1 (c8 (ah (bN (d1 dv)) (d1 (bN iO))))))) (ai (sA nd (bN (d1 dv))) (ai (sA nd ae) (ai (sw (tc2 c9 dv (cJ T.i_ dv)) (ai (sA nd (dx (dx dv dv) ae)) (ai (i0 (t_in (dx dv (mz ae)) dv hr) (ak (aK (dx dv dv)))) (ai (sf (bG dv) (gn nd) (ak (i0 (t_and (t_eq (dx dv ae) (dx dv (mz ae)) hr) (t_ni (dx dv ae) dv hr)) (ai (ci (pv 4) (dx dv ae)) (ak (ci (pv 3) (c8 (ah (bg b7 dv (bN (d1 (dx dv ae)))) (d1 (bg b7 (dx (dx dv dv) ae) (bN (d1 (dx dv ae))))))))))))) (ak (sg nd ae ip_add)))))) (ak (aK mv))))))
def fM (c:CA):FS:=(il (ntup (da (dC (ad bI (cf (aa (ad oIx (ab 0) (ac (.int 0))) af)) (ad oIx (ab 1) (ac (.int 0))))) (da (dC (ad bI (cf (aa (ad oIx (ab 0) (ac (.int 2))) af)) (ad oIx (ab 1) (ac (.int 1))))) ko))))
def bR (c:CA):List D→Option D:=runN 2 (fM c)
theorem eU:Ok P w mg base 1 T.s2_.toFb (spN 2 (bR c)):=fN [] fun _ _ _ _ _ _ hr nd=>
 (ak (f7 (dn_tup (eQ (dl (bg b7 (bN (d1 (dx dv ae))) (dx dv ae))) (eQ (dl (bg b7 (bN (d1 (dx dv ae))) (dx dv ae))) mD)))))
def o7 (c:CA):FS:=(ar (sset 3 (ay 3 (bu c) (aa (ay 2 (d0 c) (aa (ab 0) (aa (ad oIx (ab 2) (ac (.int 0))) af))) (aa (ad oIx (ab 2) (ac (.int 1))) (aa (ab 1) af))))) (il (nif (aj (ad oIs (ab 3) (ac .non))) (dC (ac .non)) (cP 2 (bR c) (aa (ab 2) (aa (ab 3) af))))))
def gU (c:CA):List D→Option D:=runN 4 (o7 c)
theorem n5:Ok P w mg base 2 T.t2_.toFb (spN 3 (gU c)):=fN ["walk"] fun _ _ _ _ _ _ hr nd=>
 (ai (sA nd (du (eT T) hr (ah (du (jz T) hr (ah dv (d1 (dx dv ae)))) (ah (dx dv ae) (d1 dv))))) (ak (f7 (nO (tc2 op_oIs dv mv) (dl mv) (nu (eU T) hr (ah dv (d1 dv)))))))
def n9 (c:CA):FS:=(il (cP 2 (bR c) (aa (ab 1) (aa (ay 3 (bu c) (aa (ay 2 (bn c) (aa (ab 0) (aa (cf (aa (ad oIx (ab 1) (ac (.int 2))) af)) af))) (aa (ad oIx (ab 1) (ac (.int 1))) (aa (cf (aa (ad oIx (ab 1) (ac (.int 0))) af)) af)))) af))))
def gg (c:CA):List D→Option D:=runN 2 (n9 c)
theorem mP:Ok P w mg base 2 T.u2_.toFb (spN 2 (gg c)):=fN [] fun _ _ _ _ _ _ hr nd=>
 (ak (f7 (nu (eU T) hr (ah dv (d1 (du (eT T) hr (ah (du (fw T) hr (ah dv (d1 (bN (d1 (dx dv ae)))))) (ah (dx dv ae) (d1 (bN (d1 (dx dv ae))))))))))))
def kG (c:CA):FS:=(aT (gq (aa (ad oIx (ab 0) (ac (.int 0))) (aa (iQ (ad oIx (ab 0) (ac (.int 0))) (gB (ac (.int 1))) ic) (aa (ad oIx (ab 0) (ac (.int 1))) af)))))
def cG (c:CA):List D→Option D:=run 1 (kG c)
theorem oa:Ok P w mg base 1 T.v2_.toFb (spD 1 (cG c)):=fD [] fun _ _ _ _ _ _ hr nd=>
 (ak (aK (nU rfl (ah (dx dv ae) (ah (nE (dx dv ae) (mx ae) mw) (d1 (dx dv ae)))) rfl T.f_ rfl T.p_)))
def og (c:CA):FS:=(ar (sif ((cq (bh (aj (ax ij (ab 0)))) (aj (ad oNe (az bx (aa (ab 0) af)) (ac (.int 2)))))) (aT (ac (.bl false))) aI) (aT ((dand (ay 1 (cK c) (aa (ad oIx (ab 0) (ac (.int 0))) af)) (dand (ay 1 (cK c) (aa (ad oIx (ab 0) (ac (.int 1))) af)) (ii oLe oLt oLt (ac (.int 0)) (ad oIx (ab 0) (ac (.int 0))) (ad oIx (ab 0) (ac (.int 1))) (ab 1)))))))
def eV (c:CA):List D→Option D:=run 2 (og c)
theorem ok_is_tie:Ok P w mg base 2 T.w2_.toFb (spD 2 (eV c)):=fD [] fun _ _ _ _ _ _ hr nd=>
 (ai (i0 (t_or (bV (bL (ii_tuple dv T.s_ T.b_))) (t_ne (cJ T.i_ dv) ae hr)) (ak (aK dA))) (ak (aK ((ml (du (fv T) hr (d1 (dx dv ae))) (ml (du (fv T) hr (d1 (dx dv ae))) (de_one (de_chain3 mq c9 c9 ae (dx dv ae) (dx dv ae) dv))))))))
def cV (c:CA):FS:=(ar (sif ((cq (bh (aj (ay 1 (cK c) (aa (ab 1) af)))) (bh (aj (cO oLe oLe (ac (.int 1)) (ab 1) (ac (.int 8))))))) ((fun _=>none)) aI) (ar (sif ((cq (bh (aj (ax fj (ab 2)))) (aj (ad oGt (az bx (aa (ab 2) af)) (ac (.int 14)))))) ((fun _=>none)) aI) (ar (sif (bh (aj (az oAll (aa (bZ (aZ (ab 2)) (am 0) eH (ay 2 (eV c) (aa (ab 0) (aa (ab 1) af))) 1 [1]) af)))) ((fun _=>none)) aI) (ar (kr c.Web "points" (dC (ab 1))) (kr c.Web "pairs" (kq (aZ (ab 2)) (am 0) eH (ntup (da (dC (ad oIx (ab 0) (ac (.int 0)))) (da (dC (ad oIx (ab 0) (ac (.int 1)))) ko))) 1 []))))))
def cb (c:CA):List D→Option (List (Str×D)):=fun ds=>unif fun p=>f8 3 c.Web (cV c) ds p
theorem jA:Ok P w mg base 3 T.x2_.toFb (spIN c.Web 2 (cb c)):=fI [] fun _ _ _ _ _ _ hr nd=>
 (ai (i0 (t_or (bV (bL (du (fv T) hr (d1 dv)))) (bV (hX mq mq ae dv (dk T.t_)))) (ak (h8))) (ai (i0 (t_or (bV (bL (mI dv T.f_ T.b_))) (tc2 gL (cJ T.i_ dv) (dk T.u_))) (ak (h8))) (ai (i0 (bV (bL (b_all T.q_ (dc ["tie", "points"] (bG dv) (fun nd _ _ _ _ _=>⟨(gn nd),dz,(du (ok_is_tie T) hr (ah dv (d1 dv)))⟩))))) (ak (h8))) (ai (im (C:=c.Web) (pv 0) (dl dv) ⟨T.d_.cls,T.e_⟩) (ak (im (C:=c.Web) (pv 0) (nc ["tie"] (bG dv) (fun nd _ _ _ _ _=>⟨(gn nd),dz,(dn_tup (eQ (dl (dx dv ae)) (eQ (dl (dx dv ae)) mD)))⟩)) ⟨T.d_.cls,T.h_⟩))))))
def cc (c:CA):FS:=(sif ((cq (bh (aj (ax (kB c) (ab 0)))) (aj (ad oLt (bE (isC c.Web) "points" (ab 0)) (ab 1))))) ((fun _=>none)) aI)
def d6 (c:CA):List D→Option D:=run 2 (cc c)
theorem jB:Ok P w mg base 1 T.y2_.toFb (spD 2 (d6 c)):=fD [] fun _ _ _ _ _ _ hr nd=>
 (ak (i0 (t_or (bV (bL (ii_c dv T.d_ (K_Web T) T.b_))) (tc2 c9 (df dv T.d_.cls T.e_) dv)) (ak (h8))))
def cY (c:CA):FS:=(ar (sset 1 (ay 1 (cF c) (aa (ab 0) af))) (ar (bB (dJ (aa (ad bI (az bx (aa ((bH c.Web "ties" 1 (aV c) (ab 0) af)) af)) (ac (.int 1))) af)) (am 2) (ar (sset 3 (ay 2 (bT c) (aa (ac (.int 0)) (aa (ay 2 (bn c) (aa (ab 1) (aa (cf (aa (ab 2) af)) af))) af)))) (sif (aj (ad oLt (az bx (aa (ab 3) af)) (bE (isC c.Web) "points" (ab 0)))) (aT (az fg (aa (ab 3) af))) aI))) (aT (cf af))))
def bX (c:CA):List D→Option D:=run 4 (cY c)
theorem fx:Ok P w mg base 3 T.z2_.toFb (spD 1 (bX c)):=fD ["steps", "place", "points"] fun _ _ _ _ _ _ hr nd=>
 (ai (sA nd (du (jj T) hr (d1 dv))) (ai (sf (ir T.g_ (bg b7 (cJ T.i_ ((dm0 T.d_.cls (cL T) hr dv))) ae)) (gn nd) (ai (sA nd (du (gS T) hr (ah ae (d1 (du (fw T) hr (ah dv (d1 (bN (d1 dv))))))))) (ak (i0 (tc2 c9 (cJ T.i_ dv) (df dv T.d_.cls T.e_)) (ak (aK (de_b1 c_sorted PyProof.Rows.boot_sorted T.w_ (d1 dv)))))))) (ak (aK (bN iO)))))
def o8 (c:CA):FS:=(ar (sset 2 (ad oIx (bZ (aZ (ab 0)) (am 0) (aj (ad oIn (ad oIx (ab 0) (ac (.int 0))) (ab 1))) (ab 0) 1 [1]) (ac (.int 0)))) (ar (sfrz 2 (gC 3 (cP 3 (gU c) (aa (ab 0) (aa (ab 1) (aa (ab 2) af)))))) (sfrz 2 (iq 3 (aj (ad oIs (ab 3) (ac .non))) (cP 2 (gg c) (aa (ab 0) (aa (ab 2) af)))))))
def fy (c:CA):List D→Option D:=runN 4 (o8 c)
theorem oh:Ok P w mg base 3 T.a3_.toFb (spN 2 (fy c)):=fN ["first", "way"] fun _ _ _ _ _ _ hr nd=>
 (ai (sA nd (dx (dc ["step", "met"] (bG dv) (fun nd _ _ _ _ _=>⟨(gn nd),(eN (t_in (dx dv ae) dv hr)),dv⟩)) ae)) (ai (gK (stN nd (nu (n5 T) hr (ah dv (ah dv (d1 dv)))))) (ak (gK (ds_retIf2 (tc2 op_oIs dv mv) (pv 3) (nu (mP T) hr (ah dv (d1 dv))))))))
def kI (c:CA):FS:=(ar (sset 1 (cf af)) (ar (sset 2 (cf (aa (ac (.int 0)) af))) (ar (sset 3 (ay 1 (cF c) (aa (ab 0) af))) (ar (cH (aj (ad oGt (az bx (aa (ab 3) af)) (ac (.int 0)))) (ar (iT 2 4 (cP 2 (fy c) (aa (ab 3) (aa (ab 2) af)))) (ar (sfrz 4 (cD 1 (ab 4))) (ar (sext 2 (ad oIx (ab 4) (ac (.int 0)))) (sset 3 (ay 2 (bn c) (aa (ab 3) (aa (ad oIx (ab 4) (ac (.int 1))) af))))))) 100) (h9 1)))))
def gV (c:CA):List D→Option D:=run 5 (kI c)
theorem oi:Ok P w mg base 4 T.b3_.toFb (spD 1 (gV c)):=fD ["ears", "met", "steps", "ear"] fun _ _ _ _ _ _ hr nd=>
 (ai (sA nd (bN iO)) (ai (sA nd (bN (d1 ae))) (ai (sA nd (du (jj T) hr (d1 dv))) (ai (sw (tc2 gL (cJ T.i_ dv) ae) (ai (stNB nd (nu (oh T) hr (ah dv (d1 dv)))) (ai (gK (ci (pv 1) dv)) (ai (ds_extend (pv 2) (dx dv ae)) (ak (sA nd (du (fw T) hr (ah dv (d1 (dx dv ae)))))))))) (ak (jT (pv 1)))))))
def kJ (c:CA):FS:=(ar (sset 2 (ad bQ (cf (aa (ac (.int 0)) af)) (az bx (aa ((bH c.Web "ties" 1 (aV c) (ab 0) af)) af)))) (ar (bB (aZ (ab 1)) (am 3) (bB (aZ (ay 1 (cG c) (aa (ab 3) af))) (am 4) (sput 2 (ad oIx (ab 4) (ac (.int 2))) (ad oIx (ab 4) (ac (.int 0)))))) (h9 2)))
def eu (c:CA):List D→Option D:=run 5 (kJ c)
theorem jC:Ok P w mg base 2 T.c3_.toFb (spD 2 (eu c)):=fD ["begins", "ear", "step"] fun _ _ _ _ _ _ hr nd=>
 (ai (sA nd (bg dh (bN (d1 ae)) (cJ T.i_ ((dm0 T.d_.cls (cL T) hr dv))))) (ai (sf (bG dv) (gn nd) (ak (sf (bG (du (oa T) hr (d1 dv))) (gn nd) (ak (ds_put (pv 2) (dx dv ae) (dx dv ae)))))) (ak (jT (pv 2)))))
def F_eared (c:CA):FS:=(ar (sdrop (ay 2 (d6 c) (aa (ab 0) (aa (ac (.int 2)) af)))) (ar (sset 1 (ay 1 (bX c) (aa (ab 0) af))) (il (nif (aj (ad oGt (az bx (aa (ab 1) af)) (ac (.int 0)))) (f9 c.Bar 1 (dZ c) (aa (ab 1) af)) (f9 c.Ears 1 (dH c) (aa (ay 1 (gV c) (aa (ab 0) af)) af))))))
def j7 (c:CA):List D→Option D:=runN 2 (F_eared c)
theorem ok_eared:Ok P w mg base 5 T.d3_.toFb (spN 1 (j7 c)):=fN ["points"] fun _ _ _ _ _ _ hr nd=>
 (ai (ds_drop (du (jB T) hr (ah dv (d1 ae)))) (ai (sA nd (du (fx T) hr (d1 dv))) (ak (f7 (nO (tc2 gL (cJ T.i_ dv) ae) (nk T.l_ (jy T) hr (d1 dv)) (nk T.j_ (iY T) hr (d1 (du (oi T) hr (d1 dv)))))))))
def F_turned (c:CA):FS:=(ar (gC 1 (cP 1 (j7 c) (aa (ab 0) af))) (kv 1 (aj (ax (dG c) (ab 1))) (f9 c.Turned 1 (cU c) (aa (ay 2 (eu c) (aa (ab 0) (aa (bE (isC c.Ears) "ears" (ab 1)) af))) af))))
def gh (c:CA):List D→Option D:=runN 2 (F_turned c)
theorem ok_turned:Ok P w mg base 6 T.e3_.toFb (spN 1 (gh c)):=fN ["told"] fun _ _ _ _ _ _ hr nd=>
 (ai (stN nd (nu (ok_eared T) hr (d1 dv))) (ak (ds_retIf (bL (ii_c dv T.l_ (K_Bar T) T.b_)) (pv 1) (nk T.n_ (gT T) hr (d1 (du (jC T) hr (ah dv (d1 (df dv T.j_.cls T.k_)))))))))
noncomputable def bU (c:CA) (K:PySem.W.Frag):FS:=(ar (sif (aj (ad oLt (ab 1) (dlenS K 0))) (aT (dixS K 0 (ab 1))) aI) (aT (ac (.int 0))))
noncomputable def a9 (c:CA) (K:PySem.W.Frag):List Int→Int→Option Int:=runS 2 K (bU c K)
theorem gi:Ok P w mg base 1 T.f3_.toFb (spS K (a9 c K)):=fS [] fun _ _ _ _ _ _ hr nd=>
 (ai (i0 (tc2 c9 dv (de_lenS (pv 0) (by rfl) T.i_)) (ak (aK (de_ixS (pv 0) dv (fun _ _=>rfl))))) (ak (aK ae)))
def o9 (c:CA):FS:=(ar (sset 3 (cg (aa (ac (.int 1000003)) (aa (ac (.int 1000033)) (aa (ac (.int 1000037)) (aa (ac (.int 1000039)) (aa (ac (.int 1000081)) (aa (ac (.int 1000099)) (aa (ac (.int 1000117)) (aa (ac (.int 1000121)) (aa (ac (.int 1000133)) (aa (ac (.int 1000151)) (aa (ac (.int 1000159)) (aa (ac (.int 1000171)) (aa (ac (.int 1000183)) (aa (ac (.int 1000187)) (aa (ac (.int 1000193)) (aa (ac (.int 1000199)) af)))))))))))))))))) (aT (ad oMod (ad oMod (ad bI (ad bQ (ab 0) (ac (.int 48271))) (ad bQ (ab 1) (ac (.int 69621)))) (ad oIx (ab 3) (ad oMod (ab 1) (ac (.int 16))))) (ab 2))))
def aJ (c:CA):List D→Option D:=run 4 (o9 c)
theorem bK:Ok P w mg base 1 T.g3_.toFb (spD 3 (aJ c)):=fD ["_law_primes"] fun _ _ _ _ _ _ hr nd=>
 (ai (sA nd (c8 (ah ae (ah ae (ah ae (ah ae (ah ae (ah ae (ah ae (ah ae (ah ae (ah ae (ah ae (ah ae (ah ae (ah ae (ah ae (d1 ae)))))))))))))))))) (ak (aK (bg gp (bg gp (bg b7 (bg dh dv ae) (bg dh dv ae)) (dx dv (bg gp dv ae))) dv))))
def pb (c:CA):FS:=(ar (sset 2 (bo gA (aa (ab 1) (aa (ad oIx (cg (aa (ac (.int 4)) (aa (ac (.int 5)) (aa (ac (.int 3)) (aa (ac (.int 6)) (aa (ac (.int 2)) (aa (ac (.int 7)) (aa (ac (.int 1)) (aa (ac (.int 8)) af))))))))) (ay 3 (aJ c) (aa (ab 0) (aa (ac (.int 1)) (aa (ac (.int 8)) af))))) af)))) (ar (sset 3 (ay 3 (aJ c) (aa (ab 0) (aa (ac (.int 2)) (aa (ac (.int 4)) af))))) (ar (sset 4 (cf af)) (ar (sset 5 (ad oIx (cg (aa (ac (.int 1)) (aa (ac (.int 3)) (aa (ac (.int 5)) (aa (ac (.int 7)) af))))) (ay 3 (aJ c) (aa (ab 0) (aa (ac (.int 3)) (aa (ac (.int 4)) af)))))) (ar (sif ((dW (aj (ad oEq (ad oMod (ab 2) (ab 5)) (ac (.int 0)))) (aj (ad oGt (ab 5) (ac (.int 1)))))) (sset 5 (ac (.int 1))) aI) (ar (sif ((dW (aj (ad oGt (ab 3) (ac (.int 0)))) (aj (ad oGt (ab 2) (ac (.int 1)))))) (bB (dJ (aa (ad bI (ad oSub (ab 2) (ac (.int 1))) (bo eO (aa (ad oSub (ab 3) (ac (.int 1))) (aa (ac (.int 1)) af)))) af)) (am 6) (ar (lF 7 8 (ad oMod (ad bQ (ab 6) (ab 5)) (ab 2)) (ad oMod (ad bQ (ad bI (ab 6) (ac (.int 1))) (ab 5)) (ab 2))) (cD 4 (cg (aa (bo eO (aa (ab 7) (aa (ab 8) af))) (aa (bo gA (aa (ab 7) (aa (ab 8) af))) af)))))) aI) (ar (sset 9 (ad oIx (cg (aa (ac (.int 9)) (aa (ac (.int 4)) af))) (bo eO (aa (ab 3) (aa (ac (.int 1)) af))))) (ar (sif (aj (ad oEq (ay 3 (aJ c) (aa (ab 0) (aa (ac (.int 8)) (aa (ac (.int 4)) af)))) (ac (.int 0)))) (sset 9 (ac (.int 15))) aI) (ar (sfrz 9 (bB (dJ (aa (ay 3 (aJ c) (aa (ab 0) (aa (ac (.int 4)) (aa (ab 9) af)))) af)) (am 6) (ar (sset 7 (ay 3 (aJ c) (aa (ad bQ (ad bI (ab 0) (ad bQ (ac (.int 977)) (ab 6))) (ad bI (ab 6) (ac (.int 3)))) (aa (ac (.int 5)) (aa (ab 2) af))))) (ar (sset 8 (ay 3 (aJ c) (aa (ad bQ (ad bI (ab 0) (ad bQ (ac (.int 31)) (ab 6))) (ad bI (ab 6) (ac (.int 5)))) (aa (ac (.int 6)) (aa (ab 2) af))))) (sif (aj (ad oNe (ab 7) (ab 8))) (cD 4 (cg (aa (bo eO (aa (ab 7) (aa (ab 8) af))) (aa (bo gA (aa (ab 7) (aa (ab 8) af))) af)))) aI))))) (ar (sif (aj (ad oEq (ay 3 (aJ c) (aa (ab 0) (aa (ac (.int 7)) (aa (ac (.int 2)) af)))) (ac (.int 0)))) (sset 4 (drev (ab 4) (dun ig (ac (.int 1))))) aI) (aT (cg (aa (ab 2) (aa (iQ (ab 4) ic (gB (ac (.int 14)))) af))))))))))))))
def fz (c:CA):List D→Option D:=run 10 (pb c)
theorem oj:Ok P w mg base 2 T.h3_.toFb (spD 2 (fz c)):=fD ["_law_points", "_law_kind", "_law_ties", "_law_turn", "_law_k", "_law_one", "_law_other", "_law_most"] fun _ _ _ _ _ _ hr nd=>
 (ai (sA nd (km (c_max2 rfl) PyProof.Rows.boot_max T.y_ (ah dv (d1 (dx (c8 (ah ae (ah ae (ah ae (ah ae (ah ae (ah ae (ah ae (d1 ae))))))))) (du (bK T) hr (ah dv (ah ae (d1 ae))))))))) (ai (sA nd (du (bK T) hr (ah dv (ah ae (d1 ae))))) (ai (sA nd (bN iO)) (ai (sA nd (dx (c8 (ah ae (ah ae (ah ae (d1 ae))))) (du (bK T) hr (ah dv (ah ae (d1 ae)))))) (ai (i0 (t_and (t_eq (bg gp dv dv) ae hr) (tc2 gL dv ae)) (ak (sA nd ae))) (ai (i0 (t_and (tc2 gL dv ae) (tc2 gL dv ae)) (ak (sf (ir T.g_ (bg b7 (bg mo dv ae) (km (mr rfl) PyProof.Rows.boot_min T.z_ (ah (bg mo dv ae) (d1 ae))))) (gn nd) (ai (ds_par rfl nd rfl rfl (by decide) rfl rfl (bg gp (bg dh dv dv) dv) (bg gp (bg dh (bg b7 dv ae) dv) dv) rfl) (ak (ci (pv 4) (c8 (ah (km (mr rfl) PyProof.Rows.boot_min T.z_ (ah dv (d1 dv))) (d1 (km (c_max2 rfl) PyProof.Rows.boot_max T.y_ (ah dv (d1 dv)))))))))))) (ai (sA nd (dx (c8 (ah ae (d1 ae))) (km (mr rfl) PyProof.Rows.boot_min T.z_ (ah dv (d1 ae))))) (ai (i0 (t_eq (du (bK T) hr (ah dv (ah ae (d1 ae)))) ae hr) (ak (sA nd ae))) (ai (gK (sf (ir T.g_ (du (bK T) hr (ah dv (ah ae (d1 dv))))) (gn nd) (ai (sA nd (du (bK T) hr (ah (bg dh (bg b7 dv (bg dh ae dv)) (bg b7 dv ae)) (ah ae (d1 dv))))) (ai (sA nd (du (bK T) hr (ah (bg dh (bg b7 dv (bg dh ae dv)) (bg b7 dv ae)) (ah ae (d1 dv))))) (ak (i0 (t_ne dv dv hr) (ak (ci (pv 4) (c8 (ah (km (mr rfl) PyProof.Rows.boot_min T.z_ (ah dv (d1 dv))) (d1 (km (c_max2 rfl) PyProof.Rows.boot_max T.y_ (ah dv (d1 dv)))))))))))))) (ai (i0 (t_eq (du (bK T) hr (ah dv (ah ae (d1 ae)))) ae hr) (ak (sA nd (de_rev dv (mz ae))))) (ak (aK (c8 (ah dv (d1 (nE dv mw (mx ae)))))))))))))))))
def lj (c:CA):FS:=(aT (az bx (aa (bZ (aZ (ab 0)) (eG 2 (aX (am 0) (aX (am 1) eM))) (aj (ad oNe (ad oIn (ab 0) (ab 2)) (ad oIn (ab 1) (ab 2)))) (ac (.int 1)) 2 [1]) af)))
def dr (c:CA):List D→Option D:=run 2 (lj c)
theorem kK:Ok P w mg base 1 T.i3_.toFb (spD 2 (dr c)):=fD [] fun _ _ _ _ _ _ hr nd=>
 (ak (aK (cJ T.i_ (dc ["_law_one", "_law_other", "_law_some"] (bG dv) (fun nd _ _ _ _ _=>⟨(g2 (gn nd) (gn nd)),(eN (t_ne (c_in dv dv hr) (c_in dv dv hr) hr)),ae⟩)))))
def mQ (c:CA):FS:=(ar (sif (bh (aj (ax fj (ab 0)))) (aT (ac (.bl false))) aI) (ar (sset 2 (dun ig (ac (.int 1)))) (ar (bB (aZ (ab 0)) (am 3) (ar (sif ((cq (aj (ax is_bool (ab 3))) (cq (bh (aj (ax dX (ab 3)))) (bh (aj (cO oLt oLt (ab 2) (ab 3) (ab 1))))))) (aT (ac (.bl false))) aI) (sset 2 (ab 3)))) (aT (ac (.bl true))))))
def dR (c:CA):List D→Option D:=run 4 (mQ c)
theorem ll:Ok P w mg base 1 T.j3_.toFb (spD 2 (dR c)):=fD ["_law_last", "_law_point"] fun _ _ _ _ _ _ hr nd=>
 (ai (i0 (bV (bL (mI dv T.f_ T.b_))) (ak (aK dA))) (ai (sA nd (mz ae)) (ai (sf (bG dv) (gn nd) (ai (i0 (t_or3 (bL (mH dv T.a_ T.b_)) (bV (bL (ii_int dv T.c_ T.b_))) (bV (hX c9 c9 dv dv dv))) (ak (aK dA))) (ak (sA nd dv)))) (ak (aK dA)))))
def lm (c:CA):FS:=(ar (sset 3 (cf (aa (ab 2) af))) (ar (bB (dJ (aa (ad oIx (ab 0) (ac (.int 0))) af)) (am 4) (bB (gM (aa (ad oIx (ab 0) (ac (.int 1))) (aa (ab 1) af))) (eG 2 (aX (am 5) (aX (am 6) eM))) (ar (sset 7 (ad oSub (ad bI (ad oIx (ab 5) (ac (.int 0))) (ad oIx (ab 5) (ac (.int 1)))) (ab 6))) (sif ((dW (aj (ad oIn (ab 6) (ab 3))) (aj (ad oNotIn (ab 7) (ab 3))))) (sfrz 7 (cD 3 (ab 7))) aI)))) (aT (az bx (aa (ab 3) af)))))
def cx (c:CA):List D→Option D:=run 8 (lm c)
theorem kL:Ok P w mg base 1 T.k3_.toFb (spD 3 (cx c)):=fD ["_law_met", "_law_turn", "_law_tie", "_law_begin", "_law_end"] fun _ _ _ _ _ _ hr nd=>
 (ai (sA nd (bN (d1 dv))) (ai (sf (ir T.g_ (dx dv ae)) (gn nd) (ak (sf (my rfl T.p_ (ah (dx dv ae) (d1 dv))) (g2 (gn nd) (gn nd)) (ai (sA nd (bg mo (bg b7 (dx dv ae) (dx dv ae)) dv)) (ak (i0 (t_and (t_in dv dv hr) (t_ni dv dv hr)) (ak (gK (ci (pv 3) dv))))))))) (ak (aK (cJ T.i_ dv)))))
def gW (c:CA):FS:=(ar (sif ((cq (bh (aj (ax fj (ab 1)))) (aj (ad oNe (az bx (aa (ab 1) af)) (az bx (aa (ad oIx (ab 0) (ac (.int 1))) af)))))) (aT (ac (.bl false))) aI) (ar (bB (gM (aa (ad oIx (ab 0) (ac (.int 1))) (aa (ab 1) af))) (eG 2 (aX (am 2) (aX (am 3) eM))) (sif ((cq (aj (ax is_bool (ab 3))) (cq (bh (aj (ax dX (ab 3)))) (aj (ad oNotIn (ab 3) (ab 2)))))) (aT (ac (.bl false))) aI)) (aT (az oAll (aa (bZ (dJ (aa (ad oIx (ab 0) (ac (.int 0))) af)) (am 0) eH (ad oEq (ay 3 (cx c) (aa (ab 1) (aa (ab 2) (aa (ab 0) af)))) (ad oIx (ab 1) (ac (.int 0)))) 1 [0,1]) af)))))
def bO (c:CA):List D→Option D:=run 4 (gW c)
theorem gu:Ok P w mg base 2 T.l3_.toFb (spD 2 (bO c)):=fD ["_law_tie", "_law_begin"] fun _ _ _ _ _ _ hr nd=>
 (ai (i0 (t_or (bV (bL (mI dv T.f_ T.b_))) (t_ne (cJ T.i_ dv) (cJ T.i_ (dx dv ae)) hr)) (ak (aK dA))) (ai (sf (my rfl T.p_ (ah (dx dv ae) (d1 dv))) (g2 (gn nd) (gn nd)) (ak (i0 (t_or3 (bL (mH dv T.a_ T.b_)) (bV (bL (ii_int dv T.c_ T.b_))) (t_ni dv dv hr)) (ak (aK dA))))) (ak (aK (b_all T.q_ (dc ["_law_start", "_law_told_here", "_law_begins"] (ir T.g_ (dx dv ae)) (fun nd _ _ _ _ _=>⟨(gn nd),dz,(c_eq (du (kL T) hr (ah dv (ah dv (d1 dv)))) (dx dv ae) hr)⟩)))))))
noncomputable def F_law (c:CA) (K:PySem.W.Frag):FS:=(ar (sset 1 (ay 2 (fz c) (aa (ad bI (fq K 0 (a9 c K) (ac (.int 0))) (ad bQ (ac (.int 31)) (fq K 0 (a9 c K) (ac (.int 1))))) (aa (ac (.int 2)) af)))) (ar (sset 2 (dnw (f9 c.Web 2 (cb c) (aa (ad oIx (ab 1) (ac (.int 0))) (aa (ad oIx (ab 1) (ac (.int 1))) af))))) (ar (bB (dJ (aa (ac (.int 2)) af)) (am 3) (ar (gC 4 (cP 1 (gh c) (aa (ab 2) af))) (ar (eR 4 ((cq (bh (aj (ax (de c) (ab 4)))) (aj (ad oEq (ax (cj c) (ab 4)) (ax (dG c) (ab 4)))))) (aT (ac (.bl false))) aI) (ar (eR 4 ((cq (aj (ax (fu c) (ab 4))) (aj (ad gO ((dalt (bH c.Turned "shows" 2 (bp c) (ab 4) (aa (ab 2) af)) (bH c.Bar "shows" 2 (bJ c) (ab 4) (aa (ab 2) af)))) (ac (.bl true)))))) (aT (ac (.bl false))) aI) (ar (eR 4 (aj (ax (cj c) (ab 4))) (ar (eR 4 (bh (aj (ay 2 (bO c) (aa (ab 1) (aa (bE (isC c.Turned) "begins" (ab 4)) af))))) (aT (ac (.bl false))) aI) (smut 4 ([]++[.f c.Turned "begins"]) lI)) (ar (eR 4 ((cq (bh (aj (ay 2 (dR c) (aa (bE (isC c.Bar) "points" (ab 4)) (aa (ad oIx (ab 1) (ac (.int 0))) af))))) (bh (aj (cO oLt oLt (ac (.int 0)) (az bx (aa (bE (isC c.Bar) "points" (ab 4)) af)) (ad oIx (ab 1) (ac (.int 0)))))))) (aT (ac (.bl false))) aI) (ar (eR 4 (aj (ad oGt (ay 2 (dr c) (aa (ad oIx (ab 1) (ac (.int 1))) (aa (bE (isC c.Bar) "points" (ab 4)) af))) (ac (.int 1)))) (aT (ac (.bl false))) aI) (smut 4 ([]++[.f c.Bar "points"]) io)))) (eR 4 (aj (ad gO ((dalt (bH c.Turned "shows" 2 (bp c) (ab 4) (aa (ab 2) af)) (bH c.Bar "shows" 2 (bJ c) (ab 4) (aa (ab 2) af)))) (ac (.bl false)))) (aT (ac (.bl false))) aI)))))) (aT (ad oEq ((bH c.Web "ties" 1 (aV c) (ab 2) af)) (ad oIx (ab 1) (ac (.int 1))))))))
noncomputable def m_law (c:CA) (K:PySem.W.Frag):List Int→Option D:=runL 5 K (F_law c K)
theorem ok_law:Ok P w mg base 7 T.law.toFb (spL K (m_law c K)):=fL ["_law_told_here", "_law_web", "_law_again", "_law_found"] fun _ _ _ _ _ _ hr nd=>
 (ai (sA nd (du (oj T) hr (ah (bg b7 (duS (gi T) hr (pv 0) ae) (bg dh ae (duS (gi T) hr (pv 0) ae))) (d1 ae)))) (ai (sA nd (de_dn (nk T.d_ (jA T) hr (ah (dx dv ae) (d1 (dx dv ae)))))) (ai (sf (ir T.g_ ae) (gn nd) (ai (stN nd (nu (ok_turned T) hr (d1 dv))) (ai (iB0 (t_or (bV (bL (ii_c dv T.b1_ (K_Answer T) T.b_))) (t_eq (ii_c dv T.n_ (nY T) T.b_) (ii_c dv T.l_ (K_Bar T) T.b_) hr)) (ak (aK dA))) (ai (iB0 (t_or (bL (ii_c dv T.j_ (K_Ears T) T.b_)) (tc2 lH ((de_alt (dm T.n_.cls (fK T) hr dv (d1 dv)) (dm T.l_.cls (iB T) hr dv (d1 dv)))) dA)) (ak (aK dA))) (ai (ds_ifB (bL (ii_c dv T.n_ (nY T) T.b_)) (ai (iB0 (bV (bL (du (gu T) hr (ah dv (d1 (df dv T.n_.cls T.o_)))))) (ak (aK dA))) (ak (ds_mpop (dp_fld (C:=c.Turned) (dp_var (pv 4)) ⟨T.n_.cls,T.o_⟩)))) (ai (iB0 (t_or (bV (bL (du (ll T) hr (ah (df dv T.l_.cls T.m_) (d1 (dx dv ae)))))) (bV (hX c9 c9 ae (cJ T.i_ (df dv T.l_.cls T.m_)) (dx dv ae)))) (ak (aK dA))) (ai (iB0 (tc2 gL (du (kK T) hr (ah (dx dv ae) (d1 (df dv T.l_.cls T.m_)))) ae) (ak (aK dA))) (ak (ds_mclear (dp_fld (C:=c.Bar) (dp_var (pv 4)) ⟨T.l_.cls,T.m_⟩)))))) (ak (iB0 (tc2 lH ((de_alt (dm T.n_.cls (fK T) hr dv (d1 dv)) (dm T.l_.cls (iB T) hr dv (d1 dv)))) dA) (ak (aK dA))))))))) (ak (aK (c_eq ((dm0 T.d_.cls (cL T) hr dv)) (dx dv ae) hr))))))
end
end Pg
end
section
set_option linter.all false
set_option Elab.async false
set_option maxRecDepth 100000
namespace Pg
open PySem PySem.Spec L2 Ew Mx
variable (c:CA)
theorem bj:big=100000:=rfl
@[simp] theorem cB (k:DSt→Option Res) (δ:DSt):Res.loop k (.nx δ)=k δ:=rfl
@[simp] theorem loop_rt (k:DSt→Option Res) (r:R):Res.loop k (.rt r)=some (.rt r):=rfl
section
variable {P:Type} [DecidableEq P] (A:Enc P)
def lK:FS:=sif ((dW (aj (ad oEq (ad oIx (ab 4) (ac (.int 0))) (ad oIx (ab 2) (ab 3)))) (aj (ad oNotIn (ad oIx (ab 4) (ac (.int 1))) (ab 2))))) (cD 2 (ad oIx (ab 4) (ac (.int 1)))) aI
theorem kM (hA:A.k≤15) {σ:Type} (es:σ→D) (pr:σ→P×P) (hes:∀ s,∃ rest,es s=.tup (A.e (pr s).1::A.e (pr s).2::rest)) {e0 e1:Option E} {k:Nat} {p:P} :
  ∀ (L:List σ) (f:List P) (x:Option E),f[k]?=some p→f.length+L.length≤1000→
  ∃ x',ba (am 4) lK (L.map es) [e0,e1,some (.ow (f.map A.e)),some (.sh (.int k)),x]=some (.nx [e0,e1,some (.ow ((ga (L.map pr) p f).map A.e)),some (.sh (.int k)),x'])
 | [],f,x,_,_=>⟨x,rfl⟩
 | s::L,f,x,hk,hl=>by
  obtain ⟨rest,er⟩:=hes s
  have hk2:(f.map A.e)[k]?=some (A.e p):=by rw [List.getElem?_map,hk];rfl
  have hb:lK [e0,e1,some (.ow (f.map A.e)),some (.sh (.int k)),some (.sh (es s))]=some (.nx [e0,e1,some (.ow ((dF p f (pr s)).map A.e)),some (.sh (.int k)),some (.sh (es s))]):=by
   unfold lK dF
   rw [er]
   simp only [dB,dtAnd_e,dP,dbin_e,fY,dcon_e,List.getElem?_cons_zero,List.getElem?_cons_succ,Option.bind_some,bz,view_bw,oIx_t,oIx_l,cQ,cX,atIn,hk2,Option.map_some,A.oEq hA,bool_bl,A.oNotIn hA]
   by_cases h1:(pr s).1=p
   ·
    by_cases h2:(pr s).2∈f
    ·
     simp [h1,h2]
    ·
     have:f.length≤big:=by rw [bj];simp at hl;omega
     simp [h1,h2,cD,cX,this]
   ·
    simp [h1]
  obtain ⟨x',ih⟩:=kM hA es pr hes (e0:=e0) (e1:=e1) (k:=k) (p:=p) L (dF p f (pr s)) (some (.sh (es s))) (by
   unfold dF
   split
   ·
    rw [List.getElem?_append_left]
    ·
     exact hk
    ·
     exact (List.getElem?_eq_some_iff.mp hk).1
   ·
    exact hk) (by
   unfold dF
   simp at hl
   split
   ·
    simp;omega
   ·
    omega)
  refine ⟨x',?_⟩
  rw [List.map_cons]
  unfold ba
  have hg:am 4 (es s) [e0,e1,some (.ow (f.map A.e)),some (.sh (.int k)),x]=some [e0,e1,some (.ow (f.map A.e)),some (.sh (.int k)),some (.sh (es s))]:=rfl
  rw [hg]
  show (lK _).bind _=_
  rw [hb]
  exact ih
def whileR (n:Nat):FS:=cH (aj (ad oLt (ab 3) (az bx (aa (ab 2) af)))) (ar (bB (aZ (ab 1)) (am 4) lK) (ju (·+·) 3 (ac (.int 1)))) n
theorem gE (hA:A.k≤15) {σ:Type} (es:σ→D) (pr:σ→P×P) (hes:∀ s,∃ rest,es s=.tup (A.e (pr s).1::A.e (pr s).2::rest)) {e0:Option E} (L:List σ) (b:P) (hL:L.length≤100) :
  ∀ (n k:Nat) (f:List P) (x:Option E),RInv (L.map pr) b f→k≤f.length→L.length+2≤n+k→
  ∃ k' x',whileR n [e0,some (.sh (.lst (L.map es))),some (.ow (f.map A.e)),some (.sh (.int k)),x]=some (.nx [e0,some (.sh (.lst (L.map es))),some (.ow ((jg (L.map pr) n k f).map A.e)),k',x'])
 | 0,k,f,x,I,hk,hn=>by
  have h2:=List.Nodup.length_le_of_subset (l₂:=b::(L.map pr).map (·.2)) I.nd (by
   intro p hp
   rcases I.sub p hp with e | ⟨s,hs,e⟩
   ·
    simp [e]
   ·
    simp only [List.mem_cons,List.mem_map];exact .inr ⟨s,List.mem_map.1 hs,e⟩)
  simp at h2
  omega
 | n+1,k,f,x,I,hk,hn=>by
  have hfl:f.length≤L.length+1:=by
   have h2:=List.Nodup.length_le_of_subset (l₂:=b::(L.map pr).map (·.2)) I.nd (by
    intro p hp
    rcases I.sub p hp with e | ⟨s,hs,e⟩
    ·
     simp [e]
    ·
     simp only [List.mem_cons,List.mem_map];exact .inr ⟨s,List.mem_map.1 hs,e⟩)
   simpa using h2
  unfold whileR cH
  have ht:(aj (ad oLt (ab 3) (az bx (aa (ab 2) af)))) [e0,some (.sh (.lst (L.map es))),some (.ow (f.map A.e)),some (.sh (.int k)),x]=some (decide (k<f.length)):=by
   simp
  rw [ht]
  simp only [Option.bind_some]
  cases hp:f[k]? with
  | none=>
   have:¬k<f.length:=by rw [List.getElem?_eq_none_iff] at hp;omega
   refine ⟨some (.sh (.int k)),x,?_⟩
   rw [if_neg (by simpa using this)]
   unfold jg
   rw [hp]
  | some p=>
   have hk2:k<f.length:=(List.getElem?_eq_some_iff.mp hp).1
   rw [if_pos (by simpa using hk2)]
   obtain ⟨x',hin⟩:=kM A hA es pr hes (e0:=e0) (e1:=some (.sh (.lst (L.map es)))) (k:=k) (p:=p) L f x hp (by omega)
   obtain ⟨i1,⟨e1,j1⟩,i3⟩:=iW (p:=p) (L.map pr) f (fun _ h=>h) I (List.mem_of_getElem? hp)
   have hbody:(ar (bB (aZ (ab 1)) (am 4) lK) (ju (·+·) 3 (ac (.int 1)))) [e0,some (.sh (.lst (L.map es))),some (.ow (f.map A.e)),some (.sh (.int k)),x] =
     some (.nx [e0,some (.sh (.lst (L.map es))),some (.ow ((ga (L.map pr) p f).map A.e)),some (.sh (.int ((k+1:Nat):Int))),x']):=by
    simp only [fZ,bB,fk,fY,List.getElem?_cons_zero,List.getElem?_cons_succ,Option.bind_some,eB,bz]
    simp only [Bool.false_eq_true,if_false,Option.bind_some]
    rw [hin]
    simp [ju]
   rw [hbody]
   simp only [Option.bind_some,cB]
   obtain ⟨k',x'',ih⟩:=gE hA es pr hes (e0:=e0) L b hL n (k+1) (ga (L.map pr) p f) x' i1 (by rw [j1];simp;omega) (by omega)
   refine ⟨k',x'',?_⟩
   have e2:jg (L.map pr) (n+1) k f=jg (L.map pr) n (k+1) (ga (L.map pr) p f):=by
    show (match f[k]? with | none=>f | some p=>_)=_
    rw [hp]
   rw [e2]
   exact ih
theorem gX (hA:A.k≤15) {σ:Type} (es:σ→D) (pr:σ→P×P) (hes:∀ s,∃ rest,es s=.tup (A.e (pr s).1::A.e (pr s).2::rest)) (L:List σ) (b:P) (hL:L.length≤90) :
  bT c [A.e b,.lst (L.map es)]=some (.lst ((reach 100 (L.map pr) b).map A.e)):=by
 obtain ⟨k',x',h⟩:=gE A hA es pr hes (e0:=some (.sh (A.e b))) L b (by omega) 100 0 [b] none ⟨by simp,by simp,by simp,by intro Q h _ p hp;simp at hp;rw [hp];exact h⟩ (by simp) (by omega)
 have hF:lJ c=ar (sset 2 (cf (aa (ab 0) af))) (ar (sset 3 (ac (.int 0))) (ar (whileR 100) (h9 2))):=rfl
 have h0:[some (E.sh (A.e b)),some (.sh (.lst (L.map es))),some (.ow ([b].map A.e)),some (.sh (.int (0:Nat))),none]=[some (E.sh (A.e b)),some (.sh (.lst (L.map es))),some (.ow [A.e b]),some (.sh (.int 0)),none]:=rfl
 rw [h0] at h
 have h1:(1:Nat)≤big:=by rw [bj];omega
 simp only [bT,run_e,hF,fZ,sset_e,dlst_e,aN,eI,fY,dcon_e,List.map_cons,List.map_nil,List.length_cons,List.length_nil,List.cons_append,List.nil_append,List.replicate,List.getElem?_cons_zero,List.getElem?_cons_succ,Option.bind_some,lG,nJ,eB,bz,ent_fr,ent_sh,thn_nx]
 simp [h1]
 rw [h]
 simp [reach]
end
end Pg
end
section
set_option linter.all false
set_option Elab.async false
set_option maxRecDepth 100000
namespace Pg
open PySem PySem.Spec L2 Ew Mx
variable (c:CA)
section
variable {P N:Type} [DecidableEq P] [DecidableEq N] (A:Enc P) (B:Enc N)
def aU (w:Wlk P N):D:=.tup [.lst (w.1.map A.e),.lst (w.2.map B.e)]
theorem tri_e (s:P×P×N):(A.tri B).e s=.tup [A.e s.1,A.e s.2.1,B.e s.2.2]:=rfl
theorem bD {k:Nat} {F:FS} {ds:List D} {δ:DSt} {r:R} (h0:ds.map (fun d=>some (E.sh d))++List.replicate (k-ds.length) none=δ) (h:F δ=some (.rt r)) (hb:r.isBw=false):Ew.run k F ds=some r.view:=by
 unfold Ew.run
 rw [h0,h]
 simp [hb]
theorem cC {fi:DSt→Option (List D)} {g:GD} {t:DSt→Option Bool} {fe:FE} {m:Nat} {ix:List Nat} {δ:DSt} {items out:List D} (h1:fi δ=some items) (h2:items.length≤1000) (h3:cr g t fe (dIn m ix δ) items=some out) :
  bZ fi g t fe m ix δ=some (.fr out):=by
 unfold bZ
 rw [h1]
 show (if items.length≤big then _ else _)=_
 rw [if_pos (by rw [bj];omega),h3]
 rfl
theorem jk {m:List D→Option D} {f1:FE} {δ:DSt} {r1:R} {d:D} (h1:f1 δ=some r1) (hm:m [r1.view]=some d) (hb:r1.isBw=false∨d.flat=true):ay 1 m (aa f1 af) δ=some (.sh d):=by
 simp only [mB,aN,eI,h1,Option.bind_some,jX,List.map_cons,List.map_nil,hm]
 rw [if_pos]
 exact ⟨rfl,hb.imp (fun h=>by simp [h]) id⟩
theorem cZ {m:List D→Option D} {f1 f2:FE} {δ:DSt} {r1 r2:R} {d:D} (h1:f1 δ=some r1) (h2:f2 δ=some r2) (hm:m [r1.view,r2.view]=some d) (hb:(r1.isBw=false∧r2.isBw=false)∨d.flat=true):ay 2 m (aa f1 (aa f2 af)) δ=some (.sh d):=by
 simp only [mB,aN,eI,h1,h2,Option.bind_some,jX,List.map_cons,List.map_nil,hm]
 rw [if_pos]
 exact ⟨rfl,hb.imp (fun h=>by simp [h]) id⟩
theorem call3 {m:List D→Option D} {f1 f2 f3:FE} {δ:DSt} {r1 r2 r3:R} {d:D} (h1:f1 δ=some r1) (h2:f2 δ=some r2) (h3:f3 δ=some r3) (hm:m [r1.view,r2.view,r3.view]=some d) (hb:(r1.isBw=false∧r2.isBw=false∧r3.isBw=false)∨d.flat=true):ay 3 m (aa f1 (aa f2 (aa f3 af))) δ=some (.sh d):=by
 simp only [mB,aN,eI,h1,h2,h3,Option.bind_some,jX,List.map_cons,List.map_nil,hm]
 rw [if_pos]
 exact ⟨rfl,hb.imp (fun h=>by simp [h]) id⟩
theorem br {o:D→D→Option R} {fa fb:FE} {δ:DSt} {a b:R} {x:Option R} (h1:fa δ=some a) (h2:fb δ=some b) (h:o a.view b.view=x):ad o fa fb δ=x:=by
 rw [dbin_e,h1,h2];exact h
theorem ret1 {f:FE} {δ:DSt} {r:R} (h:f δ=some r) (hb:r.isBw=false):aT f δ=some (.rt r):=by
 rw [mC,h];simp [hb]
theorem dS {i:Nat} {f:FE} {δ δ':DSt} {r:R} {en:E} (h:f δ=some r) (he:r.ent=some en) (hd:δ.set i (some en)=δ'):sset i f δ=some (.nx δ'):=by
 rw [sset_e,h,Option.bind_some,he,Option.bind_some,hd]
theorem seq1 {F G:FS} {δ δ1:DSt} {x:Option Res} (h:F δ=some (.nx δ1)) (h2:G δ1=x):ar F G δ=x:=by
 rw [fZ,h,Option.bind_some,thn_nx,h2]
theorem fA (hB:B.k≤9) (L:aY P N) (ns:List N) (hL:L.length≤1000) :
  bn c [.lst (L.map (A.tri B).e),.lst (ns.map B.e)]=some (.lst ((al L ns).map (A.tri B).e)):=by
 refine bD (r:=.fr _) rfl ?_ rfl
 have:=cC (fi:=aZ (ab 0)) (g:=am 0) (t:=aj (ad oNotIn (ad oIx (ab 0) (ac (.int 2))) (ab 1))) (fe:=ab 0) (m:=1) (ix:=[1]) (δ:=[some (.sh (.lst (L.map (A.tri B).e))),some (.sh (.lst (ns.map B.e)))]) rfl (by simpa using hL) (cA _ _ _ _ (A.tri B).e (fun s=>decide (s.2.2∉ns)) (A.tri B).e L (fun s _=>by
  refine ⟨_,rfl,?_,fun _=>⟨.sh ((A.tri B).e s),rfl,rfl,rfl⟩⟩
  simp [dIn,tri_e,atI_2,B.oNotIn (show B.k≤15 by omega)]))
 show aT _ _=_
 rw [mC]
 erw [this]
 rfl
theorem cut1 (ds:List D):cutD ds (some 1) none=ds.tail:=by
 unfold cutD HT.sIx
 cases ds with
 | nil=>simp
 | cons d ds=>
  simp
theorem jl:∀ (ps:List P) (ns:List N),je (ps.map A.e) ((ps.map A.e).tail) (ns.map B.e)=(aD (ps,ns)).map (A.tri B).e
 | [],ns=>rfl
 | [p],ns=>by cases ns <;> rfl
 | p::q::ps,[]=>by simp [je,aD]
 | p::q::ps,n::ns=>by
  rw [ft (q:=q) rfl]
  have ih:=jl (q::ps) ns
  simp only [List.map_cons,←ih]
  rfl
theorem om (w:Wlk P N) (h:w.1.length=w.2.length+1):cG c [aU A B w]=some (.lst ((aD w).map (A.tri B).e)):=by
 have hz:=jl A B w.1 w.2
 simp [cG,kG,aU,cQ,cX,iQ,gB,ic,cut1,gq,h]
 simpa using hz
theorem oAdd_ll (xs ys:List D) (h:xs.length+ys.length≤1000):bI (.lst xs) (.lst ys)=some (.fr (xs++ys)):=by
 show (if xs.length+ys.length≤big then _ else _)=_
 rw [if_pos (by rw [bj];omega)]
end
end Pg
end
section
set_option linter.all false
set_option Elab.async false
set_option maxRecDepth 100000
namespace Pg
open PySem PySem.Spec L2 Ew Mx
variable (c:CA)
section
variable {P N:Type} [DecidableEq P] [DecidableEq N] (A:Enc P) (B:Enc N)
def kN:FS:=sif ((dW (aj (ad oEq (ad oIx (ab 7) (ac (.int 0))) (ad oIx (ab 6) (dun ig (ac (.int 1)))))) (aj (ad oNotIn (ad oIx (ab 7) (ac (.int 1))) (ab 4))))) (ar (cD 4 (ad oIx (ab 7) (ac (.int 1)))) (cD 3 (cg (aa (ad bI (ab 6) (cf (aa (ad oIx (ab 7) (ac (.int 1))) af))) (aa (ad bI (ad oIx (ad oIx (ab 3) (ab 5)) (ac (.int 1))) (cf (aa (ad oIx (ab 7) (ac (.int 2))) af))) af))))) aI
theorem mR (i:Int):ig (.int i)=some (.sh (.int (-i))):=rfl
theorem walk_body (hA:A.k≤9) (hB:B.k≤9) {e0 e1 e2:Option E} {k:Nat} {w:Wlk P N} {b:P} (hb:w.1.getLast?=some b) (s:P×P×N) (q:List (Wlk P N)×List P) (hk:q.1[k]?=some w)
  (l1:q.1.length≤900) (l2:q.2.length≤900) (l3:w.1.length≤900) (l4:w.2.length≤900) :
  kN [e0,e1,e2,some (.ow (q.1.map (aU A B))),some (.ow (q.2.map A.e)),some (.sh (.int k)),some (.sh (.lst (w.1.map A.e))),some (.sh ((A.tri B).e s))] =
   some (.nx [e0,e1,e2,some (.ow ((scan1 w q s).1.map (aU A B))),some (.ow ((scan1 w q s).2.map A.e)),some (.sh (.int k)),some (.sh (.lst (w.1.map A.e))),some (.sh ((A.tri B).e s))]):=by
 have hk2:(q.1.map (aU A B))[k]?=some (aU A B w):=by rw [List.getElem?_map,hk];rfl
 have hlast:(w.1.map A.e).getLast?=some (A.e b):=by rw [getLast?_map',hb];rfl
 have hA':A.k≤15:=by omega
 have b1:(1:Nat)≤big:=by rw [bj];omega
 have b2:(2:Nat)≤big:=by rw [bj];omega
 have b3:q.2.length≤big:=by rw [bj];omega
 have b4:q.1.length≤big:=by rw [bj];omega
 unfold kN scan1
 rw [tri_e]
 simp only [dB,dtAnd_e,dP,dbin_e,dun_e,fY,dcon_e,List.getElem?_cons_zero,List.getElem?_cons_succ,Option.bind_some,bz,view_bw,oIx_t,oIx_l,cQ,cX,atIn,mR,atIlast,hlast,Option.map_some,A.oEq hA',bool_bl,A.oNotIn hA']
 by_cases h1:s.1=b
 ·
  by_cases h2:s.2.1∈q.2
  ·
   simp [h1,h2,hb]
  ·
   have a1:=oAdd_ll (w.1.map A.e) [A.e s.2.1] (by simp;omega)
   have a2:=oAdd_ll (w.2.map B.e) [B.e s.2.2] (by simp;omega)
   simp [h1,h2,hb,cD,cX,atI_2,atIn,hk2,b1,b2,b3,b4,aU,a1,a2]
 ·
  have h3:¬b=s.1:=fun e=>h1 e.symm
  simp [h1,hb,h3]
theorem lL (w:Wlk P N) (q:List (Wlk P N)×List P) (s:P×P×N):(scan1 w q s).1.length≤q.1.length+1∧(scan1 w q s).2.length≤q.2.length+1:=by
 unfold scan1
 split
 ·
  simp
 ·
  constructor <;> omega
theorem walk_in (hA:A.k≤9) (hB:B.k≤9) {e0 e1 e2:Option E} {k:Nat} {w:Wlk P N} {b:P} (hb:w.1.getLast?=some b) (l3:w.1.length≤900) (l4:w.2.length≤900) :
  ∀ (L:aY P N) (q:List (Wlk P N)×List P) (x:Option E),q.1[k]?=some w→q.1.length+L.length≤900→q.2.length+L.length≤900→
  ∃ x',ba (am 7) kN (L.map (A.tri B).e) [e0,e1,e2,some (.ow (q.1.map (aU A B))),some (.ow (q.2.map A.e)),some (.sh (.int k)),some (.sh (.lst (w.1.map A.e))),x] =
   some (.nx [e0,e1,e2,some (.ow ((scan L w q).1.map (aU A B))),some (.ow ((scan L w q).2.map A.e)),some (.sh (.int k)),some (.sh (.lst (w.1.map A.e))),x'])
 | [],q,x,_,_,_=>⟨x,rfl⟩
 | s::L,q,x,hk,h1,h2=>by
  simp at h1 h2
  have hbd:=walk_body A B hA hB (e0:=e0) (e1:=e1) (e2:=e2) hb s q hk (by omega) (by omega) l3 l4
  obtain ⟨x',ih⟩:=walk_in hA hB (e0:=e0) (e1:=e1) (e2:=e2) hb l3 l4 L (scan1 w q s) (some (.sh ((A.tri B).e s))) (by
   unfold scan1
   split
   ·
    rw [List.getElem?_append_left]
    ·
     exact hk
    ·
     exact (List.getElem?_eq_some_iff.mp hk).1
   ·
    exact hk) (by have:=lL w q s;omega) (by have:=lL w q s;omega)
  refine ⟨x',?_⟩
  rw [List.map_cons]
  unfold ba
  have hg:am 7 ((A.tri B).e s) [e0,e1,e2,some (.ow (q.1.map (aU A B))),some (.ow (q.2.map A.e)),some (.sh (.int k)),some (.sh (.lst (w.1.map A.e))),x]=some [e0,e1,e2,some (.ow (q.1.map (aU A B))),some (.ow (q.2.map A.e)),some (.sh (.int k)),some (.sh (.lst (w.1.map A.e))),some (.sh ((A.tri B).e s))]:=rfl
  rw [hg]
  show (kN _).bind _=_
  rw [hbd]
  exact ih
def fB (n:Nat):FS:=cH (aj (ad oLt (ab 5) (az bx (aa (ab 3) af)))) (ar (sset 6 (ad oIx (ad oIx (ab 3) (ab 5)) (ac (.int 0)))) (ar (sif (aj (ad oIn (ad oIx (ab 6) (dun ig (ac (.int 1)))) (ab 2))) (aT (ad oIx (ab 3) (ab 5))) aI) (ar (bB (aZ (ab 0)) (am 7) kN) (ju (·+·) 5 (ac (.int 1)))))) n
def outW:Option (Wlk P N)→D
 | none=>.non
 | some w=>aU A B w
theorem kO (hA:A.k≤9) (hB:B.k≤9) {e1:Option E} (L:aY P N) (a:P) (ends:List P) (hL:L.length≤300) :
  ∀ (n k:Nat) (q:List (Wlk P N)×List P) (x6 x7:Option E),Inv L L ends a q→k≤q.1.length→L.length+2≤n+k→
  match bfs L ends n k q with
  | some w=>fB n [some (.sh (.lst (L.map (A.tri B).e))),e1,some (.sh (.lst (ends.map A.e))),some (.ow (q.1.map (aU A B))),some (.ow (q.2.map A.e)),some (.sh (.int k)),x6,x7]=some (.rt (.sh (aU A B w)))
  | none=>∃ δ,fB n [some (.sh (.lst (L.map (A.tri B).e))),e1,some (.sh (.lst (ends.map A.e))),some (.ow (q.1.map (aU A B))),some (.ow (q.2.map A.e)),some (.sh (.int k)),x6,x7]=some (.nx δ)
 | 0,k,q,x6,x7,I,hk,hn=>by have:=mK I;omega
 | n+1,k,q,x6,x7,I,hk,hn=>by
  have hql:=mK I
  have hq2:q.2.length=q.1.length:=by have:=congrArg List.length I.ls;simpa using this.symm
  have ht:(aj (ad oLt (ab 5) (az bx (aa (ab 3) af)))) [some (.sh (.lst (L.map (A.tri B).e))),e1,some (.sh (.lst (ends.map A.e))),some (.ow (q.1.map (aU A B))),some (.ow (q.2.map A.e)),some (.sh (.int k)),x6,x7]=some (decide (k<q.1.length)):=by
   simp
  unfold bfs
  cases hp:q.1[k]? with
  | none=>
   have:¬k<q.1.length:=by rw [List.getElem?_eq_none_iff] at hp;omega
   refine ⟨[some (.sh (.lst (L.map (A.tri B).e))),e1,some (.sh (.lst (ends.map A.e))),some (.ow (q.1.map (aU A B))),some (.ow (q.2.map A.e)),some (.sh (.int k)),x6,x7],?_⟩
   unfold fB cH
   rw [ht]
   simp only [Option.bind_some]
   rw [if_neg (by simpa using this)]
  | some w=>
   have hk2:k<q.1.length:=(List.getElem?_eq_some_iff.mp hp).1
   obtain ⟨b,sw,hm⟩:=I.ok w (List.mem_of_getElem? hp)
   have hlast:=sw.last
   have hwl:w.1.length≤q.2.length:=List.Nodup.length_le_of_subset sw.nodup hm
   have hwl2:=sw.len
   have hk3:(q.1.map (aU A B))[k]?=some (aU A B w):=by rw [List.getElem?_map,hp];rfl
   have hl3:(w.1.map A.e).getLast?=some (A.e b):=by rw [getLast?_map',hlast];rfl
   have s1:sset 6 (ad oIx (ad oIx (ab 3) (ab 5)) (ac (.int 0))) [some (.sh (.lst (L.map (A.tri B).e))),e1,some (.sh (.lst (ends.map A.e))),some (.ow (q.1.map (aU A B))),some (.ow (q.2.map A.e)),some (.sh (.int k)),x6,x7] =
     some (.nx [some (.sh (.lst (L.map (A.tri B).e))),e1,some (.sh (.lst (ends.map A.e))),some (.ow (q.1.map (aU A B))),some (.ow (q.2.map A.e)),some (.sh (.int k)),some (.sh (.lst (w.1.map A.e))),x7]):=by
    simp [atIn,hk3,aU,cQ]
   have t2:(aj (ad oIn (ad oIx (ab 6) (dun ig (ac (.int 1)))) (ab 2))) [some (.sh (.lst (L.map (A.tri B).e))),e1,some (.sh (.lst (ends.map A.e))),some (.ow (q.1.map (aU A B))),some (.ow (q.2.map A.e)),some (.sh (.int k)),some (.sh (.lst (w.1.map A.e))),x7]=some (decide (b∈ends)):=by
    simp [mR,atIlast,hlast,A.oIn (show A.k≤15 by omega)]
   have hli:gQ ends w=decide (b∈ends):=by simp [gQ,hlast]
   simp only [hli]
   by_cases hbe:b∈ends
   ·
    rw [if_pos (by simpa using hbe)]
    show fB (n+1) _=_
    unfold fB cH
    rw [ht]
    simp only [Option.bind_some]
    rw [if_pos (by simpa using hk2)]
    have:(ar (sset 6 (ad oIx (ad oIx (ab 3) (ab 5)) (ac (.int 0)))) (ar (sif (aj (ad oIn (ad oIx (ab 6) (dun ig (ac (.int 1)))) (ab 2))) (aT (ad oIx (ab 3) (ab 5))) aI) (ar (bB (aZ (ab 0)) (am 7) kN) (ju (·+·) 5 (ac (.int 1)))))) [some (.sh (.lst (L.map (A.tri B).e))),e1,some (.sh (.lst (ends.map A.e))),some (.ow (q.1.map (aU A B))),some (.ow (q.2.map A.e)),some (.sh (.int k)),x6,x7]=some (.rt (.sh (aU A B w))):=by
     refine seq1 s1 ?_
     rw [fZ,dB,t2]
     simp [hbe,atIn,hk3]
    rw [this]
    rfl
   ·
    rw [if_neg (by simpa using hbe)]
    obtain ⟨i1,⟨e',j1⟩,⟨e'',j2⟩,i4⟩:=ky sw hbe L q (fun _ h=>h) I hm
    obtain ⟨x',hin⟩:=walk_in A B hA hB (e0:=some (.sh (.lst (L.map (A.tri B).e)))) (e1:=e1) (e2:=some (.sh (.lst (ends.map A.e)))) hlast (by omega) (by omega) L q x7 hp (by omega) (by omega)
    have hbody:(ar (sset 6 (ad oIx (ad oIx (ab 3) (ab 5)) (ac (.int 0)))) (ar (sif (aj (ad oIn (ad oIx (ab 6) (dun ig (ac (.int 1)))) (ab 2))) (aT (ad oIx (ab 3) (ab 5))) aI) (ar (bB (aZ (ab 0)) (am 7) kN) (ju (·+·) 5 (ac (.int 1)))))) [some (.sh (.lst (L.map (A.tri B).e))),e1,some (.sh (.lst (ends.map A.e))),some (.ow (q.1.map (aU A B))),some (.ow (q.2.map A.e)),some (.sh (.int k)),x6,x7] =
      some (.nx [some (.sh (.lst (L.map (A.tri B).e))),e1,some (.sh (.lst (ends.map A.e))),some (.ow ((scan L w q).1.map (aU A B))),some (.ow ((scan L w q).2.map A.e)),some (.sh (.int ((k+1:Nat):Int))),some (.sh (.lst (w.1.map A.e))),x']):=by
     refine seq1 s1 ?_
     refine seq1 (δ1:=[some (.sh (.lst (L.map (A.tri B).e))),e1,some (.sh (.lst (ends.map A.e))),some (.ow (q.1.map (aU A B))),some (.ow (q.2.map A.e)),some (.sh (.int k)),some (.sh (.lst (w.1.map A.e))),x7]) ?_ ?_
     ·
      rw [dB,t2]
      simp [hbe]
     ·
      refine seq1 (δ1:=[some (.sh (.lst (L.map (A.tri B).e))),e1,some (.sh (.lst (ends.map A.e))),some (.ow ((scan L w q).1.map (aU A B))),some (.ow ((scan L w q).2.map A.e)),some (.sh (.int k)),some (.sh (.lst (w.1.map A.e))),x']) ?_ ?_
      ·
       simp only [bB,fk,fY,List.getElem?_cons_zero,List.getElem?_cons_succ,Option.bind_some,eB,bz]
       simp only [Bool.false_eq_true,if_false,Option.bind_some]
       exact hin
      ·
       simp [ju]
    have ih:=kO hA hB (e1:=e1) L a ends hL n (k+1) (scan L w q) (some (.sh (.lst (w.1.map A.e)))) x' i1 (by rw [j1];simp;omega) (by omega)
    have hw:fB (n+1) [some (.sh (.lst (L.map (A.tri B).e))),e1,some (.sh (.lst (ends.map A.e))),some (.ow (q.1.map (aU A B))),some (.ow (q.2.map A.e)),some (.sh (.int k)),x6,x7] =
      fB n [some (.sh (.lst (L.map (A.tri B).e))),e1,some (.sh (.lst (ends.map A.e))),some (.ow ((scan L w q).1.map (aU A B))),some (.ow ((scan L w q).2.map A.e)),some (.sh (.int ((k+1:Nat):Int))),some (.sh (.lst (w.1.map A.e))),x']:=by
     show cH _ _ (n+1) _=_
     unfold cH
     rw [ht]
     simp only [Option.bind_some]
     rw [if_pos (by simpa using hk2),hbody]
     rfl
    rw [hw]
    exact ih
theorem eW (hA:A.k≤9) (hB:B.k≤9) (L:aY P N) (a:P) (ends:List P) (hL:L.length≤90) :
  bu c [.lst (L.map (A.tri B).e),A.e a,.lst (ends.map A.e)]=some (outW A B (cE 100 L a ends)):=by
 have h:=kO A B hA hB (e1:=some (.sh (A.e a))) L a ends (by omega) 100 0 ([([a],[])],[a]) none none ⟨by simp,by simp,by intro w hw;simp at hw;subst hw;exact ⟨a,.nil,by simp⟩,by simp,by simp⟩ (by simp) (by omega)
 have hF:dI c=ar (sset 3 (cf (aa (cg (aa (cf (aa (ab 1) af)) (aa (cf af) af))) af))) (ar (sset 4 (cf (aa (ab 1) af))) (ar (sset 5 (ac (.int 0))) (ar (fB 100) (aT (ac .non))))):=rfl
 have b0:(0:Nat)≤big:=by omega
 have b1:(1:Nat)≤big:=by rw [bj];omega
 have b2:(2:Nat)≤big:=by rw [bj];omega
 have hst:∀ x,(fB 100 [some (.sh (.lst (L.map (A.tri B).e))),some (.sh (A.e a)),some (.sh (.lst (ends.map A.e))),some (.ow [aU A B ([a],[])]),some (.ow [A.e a]),some (.sh (.int 0)),none,none])=x→
   dI c [some (.sh (.lst (L.map (A.tri B).e))),some (.sh (A.e a)),some (.sh (.lst (ends.map A.e))),none,none,none,none,none]=x.bind (Res.thn (aT (ac .non))):=by
  intro x hx
  rw [hF]
  refine seq1 (δ1:=[some (.sh (.lst (L.map (A.tri B).e))),some (.sh (A.e a)),some (.sh (.lst (ends.map A.e))),some (.ow [aU A B ([a],[])]),none,none,none,none]) (by simp [b1,b2,aU]) ?_
  refine seq1 (δ1:=[some (.sh (.lst (L.map (A.tri B).e))),some (.sh (A.e a)),some (.sh (.lst (ends.map A.e))),some (.ow [aU A B ([a],[])]),some (.ow [A.e a]),none,none,none]) (by simp [b1]) ?_
  refine seq1 (δ1:=[some (.sh (.lst (L.map (A.tri B).e))),some (.sh (A.e a)),some (.sh (.lst (ends.map A.e))),some (.ow [aU A B ([a],[])]),some (.ow [A.e a]),some (.sh (.int 0)),none,none]) (by simp) ?_
  rw [fZ,hx]
 unfold cE
 cases hb:bfs L ends 100 0 ([([a],[])],[a]) with
 | some w=>
  rw [hb] at h
  have:=hst _ h
  exact bD (r:=.sh (aU A B w)) rfl this rfl
 | none=>
  rw [hb] at h
  obtain ⟨δ,h⟩:=h
  have:=hst _ h
  exact bD (r:=.sh .non) rfl this rfl
end
end Pg
end
section
set_option linter.all false
set_option Elab.async false
set_option maxRecDepth 100000
namespace Pg
open PySem PySem.Spec L2 Ew Mx
variable (c:CA)
abbrev Tie:=Int×Int
abbrev ET:Enc Tie:=Enc.int.par Enc.int
abbrev aq (t:Tie):D:=.tup [.int t.1,.int t.2]
abbrev ao (ns:List Int):D:=.lst (ns.map .int)
abbrev eWk (w:Wlk Int Int):D:=aU Enc.int Enc.int w
def av (n:Int) (T:List Tie):D:=.obj c.Web [("points",.int n),("pairs",.lst (T.map aq))]
theorem lM {A:Type} {a b:A}:List.lookup ("points" : Str) [("points",a),("pairs",b)]=some a:=rfl
theorem lk_pairs {A:Type} {a b:A}:List.lookup ("pairs" : Str) [("points",a),("pairs",b)]=some b:=rfl
theorem lk_ties {A:Type} {a b:A}:List.lookup ("ties" : Str) [("points",a),("pairs",b)]=none:=rfl
def bc (n:Int) (T:List Tie):Prop:=1≤n∧n≤8∧T.length≤14∧∀ t∈T,0≤t.1∧t.1<t.2∧t.2<n
theorem fC (i:Int):cK c [.int i]=some (.bl true):=by
 simp [cK,jh,ax,dX,is_bool]
theorem ties_eq (n:Int) (T:List Tie):aV c [av c n T]=some (.lst (T.map aq)):=by
 simp [aV,kD,av,lk_pairs]
theorem dg {f:FE} {δ:DSt} {n:Int} {T:List Tie} (h:f δ=some (.sh (av c n T))):bH c.Web "ties" 1 (aV c) f af δ=some (.sh (.lst (T.map aq))):=by
 have:=ties_eq c n T
 unfold av at this h
 simp [h,lk_ties,this]
theorem mS (p q:Int):(if q<p then q else p)=min p q:=by split <;> omega
theorem int_max (p q:Int):(if q>p then q else p)=max p q:=by split <;> omega
def tieB (p q:Int):Tie:=(min p q,max p q)
def pts (n:Int):List Int:=(List.range n.toNat).map fun (k:Nat)=>(k:Int)
theorem ln (n:Int) (T:List Tie) (h:0≤n) (h2:n≤1000):cR c [av c n T]=some (ao (pts n)):=by
 have e:(-1000000:Int)≤0∧(0:Int)≤1000000∧-1000000≤n∧n≤1000000:=by omega
 simp only [cR,iz,run_e,mC,ie,aN,eI,kn,fY,av]
 simp [lM,rngD,e,ao,pts]
def isSet (n:Int) (ps:List Int):Bool:=decide (ps=(pts n).filter ps.contains)
theorem gr (n:Int):(pts n).length=n.toNat:=by unfold pts;simp
theorem eD {n p:Int}:p∈pts n↔0≤p∧p<n:=by
 unfold pts
 rw [List.mem_map]
 constructor
 ·
  rintro ⟨k,hk,rfl⟩
  rw [List.mem_range] at hk
  omega
 ·
  rintro ⟨h1,h2⟩
  exact ⟨p.toNat,by rw [List.mem_range];omega,by omega⟩
theorem gt (n:Int):(pts n).Nodup:=gD List.nodup_range (fun x _ y _ e=>by omega)
theorem jD (n:Int) (T:List Tie) (ps:List Int) (h:0≤n) (h2:n≤100):cS c [av c n T,ao ps]=some (.bl (isSet n ps)):=by
 have a:=ln c n T h (by omega)
 have hb:(pts n).length≤1000:=by rw [gr];omega
 have cm:=cC (fi:=aZ (ay 1 (cR c) (aa (ab 0) af))) (g:=am 0) (t:=aj (ad oIn (ab 0) (ab 1))) (fe:=ab 0) (m:=1) (ix:=[1]) (δ:=[some (.sh (av c n T)),some (.sh (ao ps))]) (items:=(pts n).map .int) (by
   rw [fk,jk (r1:=.sh (av c n T)) rfl a (.inl rfl)];rfl) (by simpa using hb) (cA _ _ _ _ D.int ps.contains D.int (pts n) (fun x _=>by
  refine ⟨_,rfl,?_,fun _=>⟨.sh (.int x),rfl,rfl,rfl⟩⟩
  simp [dIn,ao]))
 refine bD (r:=.sh (.bl (isSet n ps))) rfl (ret1 (br (a:=.sh (ao ps)) rfl cm ?_) rfl) rfl
 show oEq (.lst (ps.map .int)) (.lst (((pts n).filter ps.contains).map .int))=_
 rw [oEq_ints];rfl
def cn (ps:List Int) (t:Tie):Bool:=decide (t.1∈ps) != decide (t.2∈ps)
def kP (T:List Tie) (ps:List Int):List Int:=(T.filter (cn ps)).map fun t=>if t.1∈ps then t.2 else t.1
theorem oNe_bb (a b:Bool):oNe (.bl a) (.bl b)=some (.sh (.bl (a != b))):=by
 cases a <;> cases b <;> rfl
theorem kQ (n:Int) (T:List Tie) (ps:List Int) (hT:T.length≤1000):ck c [av c n T,ao ps]=some (ao (kP T ps)):=by
 have c1:=cC (fi:=aZ ((bH c.Web "ties" 1 (aV c) (ab 0) af))) (g:=am 0) (t:=aj (ad oNe (ad oIn (ad oIx (ab 0) (ac (.int 0))) (ab 1)) (ad oIn (ad oIx (ab 0) (ac (.int 1))) (ab 1)))) (fe:=ab 0) (m:=1) (ix:=[1]) (δ:=[some (.sh (av c n T)),some (.sh (ao ps)),none]) (items:=T.map aq) (by
   rw [fk,dg c (f:=ab 0) rfl];rfl) (by simpa using hT) (cA _ _ _ _ aq (cn ps) aq T (fun t _=>by
  refine ⟨_,rfl,?_,fun _=>⟨.sh (aq t),rfl,rfl,rfl⟩⟩
  simp [dIn,ao,cQ,cX,oNe_bb,cn]))
 have c2:=cC (fi:=aZ (ab 2)) (g:=am 0) (t:=eH) (fe:=dif (aj (ad oIn (ad oIx (ab 0) (ac (.int 0))) (ab 1))) (ad oIx (ab 0) (ac (.int 1))) (ad oIx (ab 0) (ac (.int 0)))) (m:=1) (ix:=[1]) (δ:=[some (.sh (av c n T)),some (.sh (ao ps)),some (.sh (.lst ((T.filter (cn ps)).map aq)))]) rfl (by simp;exact Nat.le_trans (List.length_filter_le _ _) hT) (cA _ _ _ _ aq (fun _=>true) (fun t=>.int (if t.1∈ps then t.2 else t.1)) (T.filter (cn ps)) (fun t _=>by
  refine ⟨_,rfl,rfl,fun _=>⟨.sh (.int (if t.1∈ps then t.2 else t.1)),?_,rfl,rfl⟩⟩
  by_cases h:t.1∈ps <;> simp [dIn,ao,cQ,cX,h]))
 have e1:((T.filter (cn ps)).filter fun _=>true)=T.filter (cn ps):=by simp
 rw [e1] at c2
 refine bD (r:=.fr _) rfl (seq1 (dS c1 rfl rfl) ?_) rfl
 rw [iR]
 refine (ret1 c2 rfl).trans ?_
 unfold kP
 rw [List.map_map]
 rfl
theorem pd (T:List Tie) (ps:List Int):(kP T ps).length=(T.filter (cn ps)).length:=by simp [kP]
end Pg
end
section
set_option linter.all false
set_option Elab.async false
set_option maxRecDepth 100000
namespace Pg
open PySem PySem.Spec L2 Ew Mx
variable (c:CA)
theorem lN:∀ ns:List Int,nums (ns.map .int)=some ns
 | []=>rfl
 | n::ns=>by simp only [List.map_cons,nums,lN ns];rfl
theorem lO:∀ bs:List Bool,bls (bs.map .bl)=some bs
 | []=>rfl
 | b::bs=>by simp only [List.map_cons,bls,lO bs];rfl
def aw (T:List Tie):aY Int Int:=(T.zipIdx).flatMap fun p=>[(p.1.1,p.1.2,(p.2:Int)),(p.1.2,p.1.1,(p.2:Int))]
theorem aW {T:List Tie} {s:Int×Int×Int}:s∈aw T↔∃ (i:Nat) (t:Tie),T[i]?=some t∧s.2.2=(i:Int)∧((s.1=t.1∧s.2.1=t.2)∨(s.1=t.2∧s.2.1=t.1)):=by
 unfold aw
 rw [List.mem_flatMap]
 constructor
 ·
  rintro ⟨p,hp,hs⟩
  obtain ⟨t,i⟩:=p
  have:=List.mem_zipIdx_iff_getElem?.1 hp
  simp at this hs
  refine ⟨i,t,this,?_⟩
  rcases hs with rfl | rfl
  ·
   exact ⟨rfl,.inl ⟨rfl,rfl⟩⟩
  ·
   exact ⟨rfl,.inr ⟨rfl,rfl⟩⟩
 ·
  rintro ⟨i,t,h1,h2,h3⟩
  refine ⟨(t,i),List.mem_zipIdx_iff_getElem?.2 h1,?_⟩
  rcases s with ⟨x,y,z⟩
  simp at h2 h3 ⊢
  subst h2
  rcases h3 with ⟨rfl,rfl⟩ | ⟨rfl,rfl⟩
  ·
   exact .inl ⟨rfl,rfl,rfl⟩
  ·
   exact .inr ⟨rfl,rfl,rfl⟩
theorem ce (T:List Tie):(aw T).length=2*T.length:=by
 unfold aw
 have:∀ (T:List Tie) (k:Nat),((T.zipIdx k).flatMap fun p=>[(p.1.1,p.1.2,(p.2:Int)),(p.1.2,p.1.1,(p.2:Int))]).length=2*T.length:=by
  intro T
  induction T with
  | nil=>intro k;rfl
  | cons t T ih=>intro k;simp only [List.zipIdx_cons,List.flatMap_cons,List.length_append,ih,List.length_cons,List.length_nil];omega
 exact this T 0
theorem iC (T:List Tie):iV (aw T):=by
 intro s hs t ht e
 obtain ⟨i,x,h1,h2,h3⟩:=aW.1 hs
 obtain ⟨j,y,k1,k2,k3⟩:=aW.1 ht
 have:i=j:=by rw [h2,k2] at e;omega
 subst this
 rw [h1] at k1
 cases k1
 rcases s with ⟨a,b,n⟩
 rcases t with ⟨a',b',n'⟩
 simp at *
 subst h2;subst k2
 rcases h3 with ⟨rfl,rfl⟩ | ⟨rfl,rfl⟩ <;> rcases k3 with ⟨rfl,rfl⟩ | ⟨rfl,rfl⟩ <;> simp
theorem jm (T:List Tie):∀ s∈aw T,turned s∈aw T:=by
 intro s hs
 obtain ⟨i,x,h1,h2,h3⟩:=aW.1 hs
 refine aW.2 ⟨i,x,h1,h2,?_⟩
 rcases h3 with ⟨a,b⟩ | ⟨a,b⟩
 ·
  exact .inr ⟨b,a⟩
 ·
  exact .inl ⟨b,a⟩
theorem pf {n:Int} {T:List Tie} (W:bc n T):∀ s∈aw T,s.1≠s.2.1:=by
 intro s hs
 obtain ⟨i,x,h1,h2,h3⟩:=aW.1 hs
 have:=W.2.2.2 x (List.mem_of_getElem? h1)
 omega
theorem fE {n:Int} {T:List Tie} (W:bc n T):∀ s∈aw T,0≤s.1∧s.1<n∧0≤s.2.1∧s.2.1<n:=by
 intro s hs
 obtain ⟨i,x,h1,h2,h3⟩:=aW.1 hs
 have:=W.2.2.2 x (List.mem_of_getElem? h1)
 omega
abbrev eSt (s:Int×Int×Int):D:=(Enc.int.tri Enc.int).e s
theorem gF {e0:Option E}:∀ (T:List Tie) (k:Nat) (acc:aY Int Int) (x2 x3:Option E),acc.length+2*T.length≤1000→
  ∃ y2 y3,ba (eG 2 (aX (am 2) (aX (am 3) eM))) (ar (cD 1 (cg (aa (ad oIx (ab 3) (ac (.int 0))) (aa (ad oIx (ab 3) (ac (.int 1))) (aa (ab 2) af))))) (cD 1 (cg (aa (ad oIx (ab 3) (ac (.int 1))) (aa (ad oIx (ab 3) (ac (.int 0))) (aa (ab 2) af))))))
   ((T.zipIdx k).map fun p=>D.tup [.int (p.2:Int),aq p.1]) [e0,some (.ow (acc.map eSt)),x2,x3] =
   some (.nx [e0,some (.ow ((acc++(T.zipIdx k).flatMap fun p=>[(p.1.1,p.1.2,(p.2:Int)),(p.1.2,p.1.1,(p.2:Int))]).map eSt)),y2,y3])
 | [],k,acc,x2,x3,_=>⟨x2,x3,by simp [ba]⟩
 | t::T,k,acc,x2,x3,hl=>by
  simp only [List.length_cons] at hl
  obtain ⟨y2,y3,ih⟩:=gF (e0:=e0) T (k+1) (acc++[(t.1,t.2,(k:Int)),(t.2,t.1,(k:Int))]) (some (.sh (.int k))) (some (.sh (aq t))) (by simp;omega)
  refine ⟨y2,y3,?_⟩
  have b3:(3:Nat)≤big:=by rw [bj];omega
  have b4:acc.length≤big:=by rw [bj];omega
  have b5:acc.length+1≤big:=by rw [bj];omega
  rw [List.zipIdx_cons,List.map_cons]
  unfold ba
  have hg:eG 2 (aX (am 2) (aX (am 3) eM)) (D.tup [.int (k:Int),aq t]) [e0,some (.ow (acc.map eSt)),x2,x3]=some [e0,some (.ow (acc.map eSt)),some (.sh (.int k)),some (.sh (aq t))]:=rfl
  rw [hg]
  simp only [Option.bind_some]
  have hb:(ar (cD 1 (cg (aa (ad oIx (ab 3) (ac (.int 0))) (aa (ad oIx (ab 3) (ac (.int 1))) (aa (ab 2) af))))) (cD 1 (cg (aa (ad oIx (ab 3) (ac (.int 1))) (aa (ad oIx (ab 3) (ac (.int 0))) (aa (ab 2) af))))))
    [e0,some (.ow (acc.map eSt)),some (.sh (.int k)),some (.sh (aq t))]=some (.nx [e0,some (.ow ((acc++[(t.1,t.2,(k:Int)),(t.2,t.1,(k:Int))]).map eSt)),some (.sh (.int k)),some (.sh (aq t))]):=by
   simp [cD,cQ,cX,b3,b4,b5,tri_e,Enc.int]
  rw [hb]
  simp only [Option.bind_some,cB]
  rw [ih]
  simp
theorem jn (n:Int) (T:List Tie) (hT:T.length≤400):cF c [av c n T]=some (.lst ((aw T).map eSt)):=by
 obtain ⟨y2,y3,h⟩:=gF (e0:=some (.sh (av c n T))) T 0 [] none none (by simp;omega)
 refine bD (r:=.fr _) rfl ?_ rfl
 refine seq1 (δ1:=[some (.sh (av c n T)),some (.ow []),none,none]) (by simp) ?_
 refine seq1 (δ1:=[some (.sh (av c n T)),some (.ow ((aw T).map eSt)),y2,y3]) ?_ rfl
 have hi:(ienum (aa ((bH c.Web "ties" 1 (aV c) (ab 0) af)) af)) [some (.sh (av c n T)),some (.ow []),none,none]=some ((T.zipIdx 0).map fun p=>D.tup [.int (p.2:Int),aq p.1]):=by
  unfold ienum
  rw [aN,dg c (f:=ab 0) rfl]
  simp only [Option.bind_some,eI,eB,bz,Bool.false_eq_true,if_false,List.length_map]
  congr 1
  refine List.ext_getElem? fun i=>?_
  rw [List.getElem?_zipWith,List.getElem?_map,List.getElem?_map,List.getElem?_zipIdx]
  by_cases hi:i<T.length
  ·
   rw [List.getElem?_range hi,List.getElem?_eq_getElem hi]
   simp
  ·
   rw [List.getElem?_eq_none (show (List.range T.length).length≤i by simp;omega),List.getElem?_eq_none (show T.length≤i by omega)]
   rfl
 unfold bB
 rw [hi]
 exact h
end Pg
end
section
set_option linter.all false
set_option Elab.async false
set_option maxRecDepth 100000
namespace Pg
open PySem PySem.Spec L2 Ew Mx
variable (c:CA)
theorem all_true {f:DSt→Option (List R)} {δ:DSt} {α:Type} {xs:List α} (h:f δ=some [.fr (xs.map fun _=>D.bl true)]):az oAll f δ=some (.sh (.bl true)):=by
 rw [dY,h]
 simp only [Option.bind_some,view_fr]
 unfold oAll
 have e:(xs.map fun _=>D.bl true)=(xs.map fun _=>true).map D.bl:=by rw [List.map_map];rfl
 rw [e]
 show (bls ((xs.map fun _=>true).map D.bl)).map _=_
 rw [lO]
 simp
theorem oo {α:Type} {xs:List α} {i:Int} (h0:0≤i):atI xs i=xs[i.toNat]?:=by
 obtain ⟨k,rfl⟩ : ∃ k:Nat,i=k:=⟨i.toNat,by omega⟩
 rw [atIn]
 rfl
end Pg
end
section
set_option linter.all false
set_option Elab.async false
set_option maxRecDepth 100000
namespace Pg
open PySem PySem.Spec L2 Ew Mx
variable (c:CA)
theorem eWk_0 {f:FE} {δ:DSt} {w:Wlk Int Int} (h:f δ=some (.sh (eWk w))):ad oIx f (ac (.int 0)) δ=some (.sh (ao w.1)):=br h rfl (by simp [eWk,aU,cQ,ao,Enc.int])
theorem eWk_1 {f:FE} {δ:DSt} {w:Wlk Int Int} (h:f δ=some (.sh (eWk w))):ad oIx f (ac (.int 1)) δ=some (.sh (ao w.2)):=br h rfl (by simp [eWk,aU,cX,ao,Enc.int])
theorem and_tt {fa fb:FE} {δ:DSt} {x:Option R} (h1:fa δ=some (.sh (.bl true))) (h2:fb δ=x):dand fa fb δ=x:=by rw [dand_e,h1];exact h2
theorem dU (ns:List Int):(ns.map D.int).all D.flat=true:=by
 rw [List.all_map];simp [Function.comp_def]
theorem jE (ws:List (Wlk Int Int)) (h:ws.length≤1000):cT c [.lst (ws.map eWk)]=some (.lst (ws.map eWk)):=by
 have b2:(2:Nat)≤big:=by decide
 have hb:ws.length≤big:=by rw [bj];omega
 have cm:=nP (am 0) eH (ntup (da (dC (az gw (aa (ad oIx (ab 0) (ac (.int 0))) af))) (da (dC (az gw (aa (ad oIx (ab 0) (ac (.int 1))) af))) ko))) (dIn 1 [] [some (.sh (.lst (ws.map eWk)))]) eWk (fun _=>true) eWk ws (fun w _=>by
  refine ⟨_,rfl,rfl,fun _=>?_⟩
  have f1:=dU w.1
  have f2:=dU w.2
  simp only [List.all_map] at f1 f2
  simp [dIn,eWk,aU,cQ,cX,Enc.int,b2] at f1 f2 ⊢)
 rw [List.filter_eq_self.2 (fun _ _=>rfl)] at cm
 simp [cT,gd,hb]
 erw [cm]
 rfl
end Pg
end
section
set_option linter.all false
set_option Elab.async false
set_option maxRecDepth 100000
namespace Pg
open PySem PySem.Spec L2 Ew Mx
variable (c:CA)
theorem oq {n:Int} {t:Tie} (h:0≤t.1∧t.1<t.2∧t.2<n):eV c [aq t,.int n]=some (.bl true):=by
 have h1:=fC c t.1
 have h2:=fC c t.2
 have e1:(0:Int)≤t.1:=h.1
 have e2:t.1<t.2:=h.2.1
 have e3:t.2<n:=h.2.2
 simp [eV,og,ax,ij,bx,cQ,cX,h1,h2,e1,e2,e3]
theorem ot {n:Int} {T:List Tie} (W:bc n T):cb c [.int n,.lst (T.map aq)]=some [((("points" : Str)),D.int n),(("pairs" : Str),D.lst (T.map aq))]:=by
 obtain ⟨w1,w2,w3,w4⟩:=W
 refine j6 fun p=>?_
 have b2:(2:Nat)≤big:=by decide
 have hb:T.length≤big:=by rw [bj];omega
 have hn:=fC c n
 have cm:=nP (am 0) eH (ntup (da (dC (ad oIx (ab 0) (ac (.int 0)))) (da (dC (ad oIx (ab 0) (ac (.int 1)))) ko))) (dIn 1 [] [some (.on p (.obj c.Web [(("points" : Str),D.int n)])),some (.sh (.int n)),some (.sh (.lst (T.map aq)))]) aq (fun _=>true) aq T (fun t _=>by
  refine ⟨_,rfl,rfl,fun _=>?_⟩
  simp [dIn,cQ,cX,b2])
 rw [List.filter_eq_self.2 (fun _ _=>rfl)] at cm
 have c1:=cC (fi:=aZ (ab 2)) (g:=am 0) (t:=eH) (fe:=ay 2 (eV c) (aa (ab 0) (aa (ab 1) af))) (m:=1) (ix:=[1]) (δ:=[some (.on p (.obj c.Web [])),some (.sh (.int n)),some (.sh (.lst (T.map aq)))]) (items:=T.map aq) rfl (by simp;omega) (cA _ _ _ _ aq (fun _=>true) (fun _=>D.bl true) T (fun t ht=>by
  refine ⟨_,rfl,rfl,fun _=>⟨.sh (.bl true),?_,rfl,rfl⟩⟩
  exact cZ (r1:=.sh (aq t)) (r2:=.sh (.int n)) rfl rfl (oq c (w4 t ht)) (.inl ⟨rfl,rfl⟩)))
 rw [List.filter_eq_self.2 (fun _ _=>rfl)] at c1
 have a1:=all_true (f:=aa (bZ (aZ (ab 2)) (am 0) eH (ay 2 (eV c) (aa (ab 0) (aa (ab 1) af))) 1 [1]) af) (δ:=[some (.on p (.obj c.Web [])),some (.sh (.int n)),some (.sh (.lst (T.map aq)))]) (xs:=T) (by rw [aN,c1];rfl)
 have hF:cV c [some (.on p (.obj c.Web [])),some (.sh (.int n)),some (.sh (.lst (T.map aq)))]=some (.nx [some (.on p (.obj c.Web [(("points" : Str),D.int n),(("pairs" : Str),D.lst (T.map aq))])),some (.sh (.int n)),some (.sh (.lst (T.map aq)))]):=by
  refine seq1 (δ1:=[some (.on p (.obj c.Web [])),some (.sh (.int n)),some (.sh (.lst (T.map aq)))]) ?_ (seq1 (δ1:=[some (.on p (.obj c.Web [])),some (.sh (.int n)),some (.sh (.lst (T.map aq)))]) ?_ (seq1 (δ1:=[some (.on p (.obj c.Web [])),some (.sh (.int n)),some (.sh (.lst (T.map aq)))]) ?_ (seq1 (δ1:=[some (.on p (.obj c.Web [(("points" : Str),D.int n)])),some (.sh (.int n)),some (.sh (.lst (T.map aq)))]) ?_ ?_)))
  ·
   simp [hn,w1,w2]
  ·
   have:¬((14:Int)<(T.length:Int)):=by omega
   simp [ax,fj,this]
  ·
   rw [dB,jW,dP,a1];rfl
  ·
   simp
  ·
   have hlk:List.lookup ("pairs" : Str) [(("points" : Str),D.int n)]=none:=rfl
   simp [hlk,hb]
   erw [cm]
   rfl
 have e:f8 3 c.Web (cV c) [.int n,.lst (T.map aq)] p=(match cV c [some (.on p (.obj c.Web [])),some (.sh (.int n)),some (.sh (.lst (T.map aq)))] with
  | some (.nx (some (.on a (.obj C' fs))::_))=>if a=p∧C'=c.Web then some fs else none
  | _=>none):=rfl
 rw [e,hF]
 simp
theorem make_web {n:Int} {T:List Tie} (W:bc n T) {fr:DSt→Option (List R)} {δ:DSt} {r1 r2:R} (h:fr δ=some [r1,r2]) (h1:r1.view=.int n) (h2:r2.view=.lst (T.map aq)) (b1:r1.isBw=false) (b2:r2.isBw=false) :
  f9 c.Web 2 (cb c) fr δ=some (av c n T):=by
 simp only [j0,h,Option.bind_some,List.map_cons,List.map_nil,h1,h2,ot c W,lG,nJ,b1,b2]
 simp [av]
theorem mT (ns:List Int) (h:ns.length<64):fg (.lst (ns.map .int))=some (.fr ((srt ns).map .int)):=by
 show (nums (ns.map .int)).bind _=_
 rw [lN]
 simp [h]
end Pg
end
section
set_option linter.all false
set_option Elab.async false
set_option maxRecDepth 100000
namespace Pg
open PySem PySem.Spec L2 Ew Mx
variable (c:CA)
theorem mulR {i j:Int} (h0:0≤j) (h1:j≤1000000):bQ (.int i) (.int j)=some (.sh (.int (i*j))):=by
 unfold bQ
 simp only
 rw [if_pos (.inr ⟨Int.lt_of_lt_of_le (by decide) h0,Int.lt_of_le_of_lt h1 (by decide)⟩)]
theorem mulL {i j:Int} (h0:0≤i) (h1:i≤1000000):bQ (.int i) (.int j)=some (.sh (.int (i*j))):=by
 unfold bQ
 simp only
 rw [if_pos (.inl ⟨Int.lt_of_lt_of_le (by decide) h0,Int.lt_of_le_of_lt h1 (by decide)⟩)]
theorem modP {i j:Int} (h:0<j):oMod (.int i) (.int j)=some (.sh (.int (i % j))):=by
 unfold oMod
 simp only
 rw [if_pos h]
def gj:List Int:=[1000003,1000033,1000037,1000039,1000081,1000099,1000117,1000121,1000133,1000151,1000159,1000171,1000183,1000187,1000193,1000199]
theorem draw_eq (cell:Int) (k:Nat) (hk:k<16) {many:Int} (hm:0<many):∃ r,aJ c [.int cell,.int k,.int many]=some (.int r)∧0≤r∧r<many:=by
 obtain ⟨p,hp,hp0⟩ : ∃ p,gj[k]?=some p∧0<p:=by
  have:∀ p∈gj,0<p:=by decide
  exact ⟨gj[k]'(by simpa [gj] using hk),by simp [gj] at hk ⊢,this _ (List.getElem_mem _)⟩
 refine ⟨(cell*48271+(k:Int)*69621) % p % many,?_,Int.emod_nonneg _ (by omega),Int.emod_lt_of_pos _ hm⟩
 have b16:(16:Nat)≤big:=by decide
 have hs:sset 3 (cg (aa (ac (.int 1000003)) (aa (ac (.int 1000033)) (aa (ac (.int 1000037)) (aa (ac (.int 1000039)) (aa (ac (.int 1000081)) (aa (ac (.int 1000099)) (aa (ac (.int 1000117)) (aa (ac (.int 1000121)) (aa (ac (.int 1000133)) (aa (ac (.int 1000151)) (aa (ac (.int 1000159)) (aa (ac (.int 1000171)) (aa (ac (.int 1000183)) (aa (ac (.int 1000187)) (aa (ac (.int 1000193)) (aa (ac (.int 1000199)) af))))))))))))))))) [some (.sh (.int cell)),some (.sh (.int k)),some (.sh (.int many)),none] =
   some (.nx [some (.sh (.int cell)),some (.sh (.int k)),some (.sh (.int many)),some (.sh (.tup (gj.map .int)))]):=by
  simp [b16,gj]
 refine bD (r:=.sh (.int _)) rfl (seq1 hs (ret1 ?_ rfl)) rfl
 refine br (a:=.sh (.int ((cell*48271+(k:Int)*69621) % p))) (b:=.sh (.int many)) ?_ rfl (modP hm)
 refine br (a:=.sh (.int (cell*48271+(k:Int)*69621))) (b:=.sh (.int p)) ?_ ?_ (modP hp0)
 ·
  refine br (a:=.sh (.int (cell*48271))) (b:=.sh (.int ((k:Int)*69621))) ?_ ?_ rfl
  ·
   exact br (a:=.sh (.int cell)) (b:=.sh (.int 48271)) rfl rfl (mulR (by omega) (by omega))
  ·
   exact br (a:=.sh (.int k)) (b:=.sh (.int 69621)) rfl rfl (mulR (by omega) (by omega))
 ·
  refine br (a:=.sh (.tup (gj.map .int))) (b:=.sh (.int (k:Int))) rfl ?_ ?_
  ·
   refine br (a:=.sh (.int k)) (b:=.sh (.int 16)) rfl rfl ?_
   rw [show oMod (R.sh (D.int (k:Int))).view (R.sh (D.int 16)).view=_ from modP (by omega)]
   congr 3
   omega
  ·
   simp only [bz,oIx_t]
   rw [atIn,List.getElem?_map,hp]
   rfl
def Good (n:Int) (T:List Tie):Prop:=∀ t∈T,0≤t.1∧t.1<t.2∧t.2<n
theorem ou {n p q:Int} (h1:0≤p) (h2:p<n) (h3:0≤q) (h4:q<n) (h5:p≠q):0≤(tieB p q).1∧(tieB p q).1<(tieB p q).2∧(tieB p q).2<n:=by
 unfold tieB
 simp only
 omega
theorem lP {n:Int} {T:List Tie} {t:Tie} (h:Good n T) (ht:0≤t.1∧t.1<t.2∧t.2<n):Good n (T++[t]):=by
 intro u hu
 simp at hu
 rcases hu with hu | rfl
 ·
  exact h u hu
 ·
  exact ht
theorem kR {n:Int} {B:FS} {e0 e1 e2 e3 e5 e9:Option E} (ok:D→Prop)
  (hB:∀ d (T:List Tie) (x7 x8:Option E),ok d→Good n T→T.length≤900→∃ (T':List Tie) (y7 y8:Option E),B [e0,e1,e2,e3,some (.ow (T.map aq)),e5,some (.sh d),x7,x8,e9]=some (.nx [e0,e1,e2,e3,some (.ow (T'.map aq)),e5,some (.sh d),y7,y8,e9])∧Good n T'∧T'.length≤T.length+1) :
  ∀ (ds:List D) (T:List Tie) (x6 x7 x8:Option E),(∀ d∈ds,ok d)→Good n T→T.length+ds.length≤900→
  ∃ (T':List Tie) (y6 y7 y8:Option E),ba (am 6) B ds [e0,e1,e2,e3,some (.ow (T.map aq)),e5,x6,x7,x8,e9]=some (.nx [e0,e1,e2,e3,some (.ow (T'.map aq)),e5,y6,y7,y8,e9])∧Good n T'∧T'.length≤T.length+ds.length
 | [],T,x6,x7,x8,_,hT,_=>⟨T,x6,x7,x8,rfl,hT,by simp⟩
 | d::ds,T,x6,x7,x8,hd,hT,hl=>by
  simp at hl
  obtain ⟨T1,y7,y8,h1,h2,h3⟩:=hB d T x7 x8 (hd d (by simp)) hT (by omega)
  obtain ⟨T',z6,z7,z8,i1,i2,i3⟩:=kR ok hB ds T1 (some (.sh d)) y7 y8 (fun d' h=>hd d' (by simp [h])) h2 (by omega)
  refine ⟨T',z6,z7,z8,?_,i2,by simp;omega⟩
  unfold ba
  have hg:am 6 d [e0,e1,e2,e3,some (.ow (T.map aq)),e5,x6,x7,x8,e9]=some [e0,e1,e2,e3,some (.ow (T.map aq)),e5,some (.sh d),x7,x8,e9]:=rfl
  rw [hg]
  simp only [Option.bind_some]
  rw [h1]
  simp only [Option.bind_some,cB]
  exact i1
theorem turn_ne {n t k:Int} (h1:2≤n) (h2:n≤8) (ht:t=1∨((t=3∨t=5∨t=7)∧n % t≠0)):k*t % n≠(k+1)*t % n:=by
 have hn:n=2∨n=3∨n=4∨n=5∨n=6∨n=7∨n=8:=by omega
 rcases ht with rfl | ⟨rfl | rfl | rfl,hm⟩ <;> rcases hn with rfl | rfl | rfl | rfl | rfl | rfl | rfl <;> omega
theorem app_tie {n p q:Int} {T:List Tie} {e0 e1 e2 e3 e5 e6 e9:Option E} (hl:T.length≤900) :
  cD 4 (cg (aa (bo eO (aa (ab 7) (aa (ab 8) af))) (aa (bo gA (aa (ab 7) (aa (ab 8) af))) af))) [e0,e1,e2,e3,some (.ow (T.map aq)),e5,e6,some (.sh (.int p)),some (.sh (.int q)),e9] =
   some (.nx [e0,e1,e2,e3,some (.ow ((T++[tieB p q]).map aq)),e5,e6,some (.sh (.int p)),some (.sh (.int q)),e9]):=by
 have b2:(2:Nat)≤big:=by decide
 have b:T.length≤big:=by rw [bj];omega
 simp [cD,b2,b,tieB,←mS,←int_max]
theorem rngE {f:FE} {δ:DSt} {j:Int} (h:f δ=some (.sh (.int j))) (h2:j≤1000000) (h1:-1000000≤j):(dJ (aa f af)) δ=some ((List.range j.toNat).map fun k=>D.int (0+((k:Nat):Int))):=by
 have hc:-(2 ^ 62:Int)≤j∧j<2 ^ 62:=⟨Int.le_trans (by decide) h1,Int.lt_of_le_of_lt h2 (by decide)⟩
 unfold dJ
 simp only [aN,eI,h,Option.bind_some]
 rw [if_pos hc]
theorem cut14 (ds:List D):cutD ds none (some 14)=ds.take 14:=by
 unfold cutD HT.sIx
 simp
end Pg
end
section
set_option linter.all false
set_option Elab.async false
set_option maxRecDepth 100000
namespace Pg
open PySem PySem.Spec L2 Ew Mx
variable (c:CA)
def aS (n:Int) (T:List Tie):D:=.tup [.int n,.lst (T.map aq)]
theorem kS {ks:List Int} {r:Int} (h0:0≤r) (h1:r<(ks.length:Int)) (p:Int→Prop) (hp:∀ k∈ks,p k):∃ v,oIx (.tup (ks.map .int)) (.int r)=some (.sh (.int v))∧p v:=by
 have hr:r.toNat<ks.length:=by omega
 refine ⟨ks[r.toNat],?_,hp _ (List.getElem_mem _)⟩
 rw [oIx_t,oo h0,List.getElem?_map,List.getElem?_eq_getElem hr]
 rfl
theorem jo {fa fm:FE} {δ:DSt} {cell many:Int} (k:Int) (hk:0≤k∧k<16) (h1:fa δ=some (.sh (.int cell))) (h2:fm δ=some (.sh (.int many))) (hm:0<many) :
  ∃ r,ay 3 (aJ c) (aa fa (aa (ac (.int k)) (aa fm af))) δ=some (.sh (.int r))∧0≤r∧r<many:=by
 obtain ⟨r,e,r0,r1⟩:=draw_eq c cell k.toNat (by omega) hm
 rw [show ((k.toNat:Nat):Int)=k by omega] at e
 exact ⟨r,call3 (r1:=.sh (.int cell)) (r2:=.sh (.int k)) (r3:=.sh (.int many)) h1 rfl h2 e (.inl ⟨rfl,rfl,rfl⟩),r0,r1⟩
theorem told_eq (cell least:Int) (hl:1≤least) (hl2:least≤8):∃ n T,fz c [.int cell,.int least]=some (aS n T)∧bc n T∧least≤n:=by
 have b8:(8:Nat)≤big:=by decide
 have b4:(4:Nat)≤big:=by decide
 have b2:(2:Nat)≤big:=by decide
 obtain ⟨r1,d1,p1,q1⟩:=jo c (fa:=ab 0) (fm:=ac (.int 8)) (δ:=[some (.sh (.int cell)),some (.sh (.int least)),none,none,none,none,none,none,none,none]) (cell:=cell) (many:=8) 1 (by omega) rfl rfl (by omega)
 obtain ⟨v1,x1,y1⟩:=kS (ks:=[4,5,3,6,2,7,1,8]) p1 (by simpa using q1) (fun v=>1≤v∧v≤8) (by decide)
 have s1:sset 2 (bo gA (aa (ab 1) (aa (ad oIx (cg (aa (ac (.int 4)) (aa (ac (.int 5)) (aa (ac (.int 3)) (aa (ac (.int 6)) (aa (ac (.int 2)) (aa (ac (.int 7)) (aa (ac (.int 1)) (aa (ac (.int 8)) af))))))))) (ay 3 (aJ c) (aa (ab 0) (aa (ac (.int 1)) (aa (ac (.int 8)) af))))) af))) [some (.sh (.int cell)),some (.sh (.int least)),none,none,none,none,none,none,none,none] =
   some (.nx [some (.sh (.int cell)),some (.sh (.int least)),some (.sh (.int (max least v1))),none,none,none,none,none,none,none]):=by
  have hx:ad oIx (cg (aa (ac (.int 4)) (aa (ac (.int 5)) (aa (ac (.int 3)) (aa (ac (.int 6)) (aa (ac (.int 2)) (aa (ac (.int 7)) (aa (ac (.int 1)) (aa (ac (.int 8)) af))))))))) (ay 3 (aJ c) (aa (ab 0) (aa (ac (.int 1)) (aa (ac (.int 8)) af)))) [some (.sh (.int cell)),some (.sh (.int least)),none,none,none,none,none,none,none,none]=some (.sh (.int v1)):=br (a:=.sh (.tup [.int 4,.int 5,.int 3,.int 6,.int 2,.int 7,.int 1,.int 8])) (by simp [b8]) d1 x1
  refine dS (r:=.sh (.int (max least v1))) ?_ rfl rfl
  rw [dcall2_e,aN,aN,hx]
  simp [←int_max]
 generalize hn:max least v1=n at s1
 have n1:1≤n:=by omega
 have n8:n≤8:=by omega
 obtain ⟨kind,d2,k0,k4⟩:=jo c (fa:=ab 0) (fm:=ac (.int 4)) (δ:=[some (.sh (.int cell)),some (.sh (.int least)),some (.sh (.int n)),none,none,none,none,none,none,none]) (cell:=cell) (many:=4) 2 (by omega) rfl rfl (by omega)
 have s2:=dS (i:=3) d2 rfl (δ':=[some (.sh (.int cell)),some (.sh (.int least)),some (.sh (.int n)),some (.sh (.int kind)),none,none,none,none,none,none]) rfl
 have s3:sset 4 (cf af) [some (.sh (.int cell)),some (.sh (.int least)),some (.sh (.int n)),some (.sh (.int kind)),none,none,none,none,none,none]=some (.nx [some (.sh (.int cell)),some (.sh (.int least)),some (.sh (.int n)),some (.sh (.int kind)),some (.ow []),none,none,none,none,none]):=by simp
 obtain ⟨r3,d3,p3,q3⟩:=jo c (fa:=ab 0) (fm:=ac (.int 4)) (δ:=[some (.sh (.int cell)),some (.sh (.int least)),some (.sh (.int n)),some (.sh (.int kind)),some (.ow []),none,none,none,none,none]) (cell:=cell) (many:=4) 3 (by omega) rfl rfl (by omega)
 obtain ⟨t0,x3,y3⟩:=kS (ks:=[1,3,5,7]) p3 (by simpa using q3) (fun v=>v=1∨v=3∨v=5∨v=7) (by decide)
 have s4:sset 5 (ad oIx (cg (aa (ac (.int 1)) (aa (ac (.int 3)) (aa (ac (.int 5)) (aa (ac (.int 7)) af))))) (ay 3 (aJ c) (aa (ab 0) (aa (ac (.int 3)) (aa (ac (.int 4)) af))))) [some (.sh (.int cell)),some (.sh (.int least)),some (.sh (.int n)),some (.sh (.int kind)),some (.ow []),none,none,none,none,none] =
   some (.nx [some (.sh (.int cell)),some (.sh (.int least)),some (.sh (.int n)),some (.sh (.int kind)),some (.ow []),some (.sh (.int t0)),none,none,none,none]):=dS (br (a:=.sh (.tup [.int 1,.int 3,.int 5,.int 7])) (by simp [b4]) d3 x3) rfl rfl
 have t0p:0<t0:=by omega
 obtain ⟨t,s5,ht⟩ : ∃ t,sif ((dW (aj (ad oEq (ad oMod (ab 2) (ab 5)) (ac (.int 0)))) (aj (ad oGt (ab 5) (ac (.int 1)))))) (sset 5 (ac (.int 1))) aI [some (.sh (.int cell)),some (.sh (.int least)),some (.sh (.int n)),some (.sh (.int kind)),some (.ow []),some (.sh (.int t0)),none,none,none,none] =
   some (.nx [some (.sh (.int cell)),some (.sh (.int least)),some (.sh (.int n)),some (.sh (.int kind)),some (.ow []),some (.sh (.int t)),none,none,none,none])∧(t=1∨((t=3∨t=5∨t=7)∧n % t≠0)):=by
  by_cases h1:n % t0=0
  ·
   by_cases h2:1<t0
   ·
    exact ⟨1,by simp [modP t0p,h1,h2],.inl rfl⟩
   ·
    exact ⟨t0,by simp [modP t0p,h1,h2],.inl (by omega)⟩
  ·
   refine ⟨t0,by simp [modP t0p,h1],?_⟩
   rcases y3 with rfl | h
   ·
    exact .inl rfl
   ·
    exact .inr ⟨h,h1⟩
 have tp:0<t∧t≤7:=by omega
 obtain ⟨T1,a6,a7,a8,s6,g1,l1⟩ : ∃ (T1:List Tie) (a6 a7 a8:Option E),sif ((dW (aj (ad oGt (ab 3) (ac (.int 0)))) (aj (ad oGt (ab 2) (ac (.int 1)))))) (bB (dJ (aa (ad bI (ad oSub (ab 2) (ac (.int 1))) (bo eO (aa (ad oSub (ab 3) (ac (.int 1))) (aa (ac (.int 1)) af)))) af)) (am 6) (ar (lF 7 8 (ad oMod (ad bQ (ab 6) (ab 5)) (ab 2)) (ad oMod (ad bQ (ad bI (ab 6) (ac (.int 1))) (ab 5)) (ab 2))) (cD 4 (cg (aa (bo eO (aa (ab 7) (aa (ab 8) af))) (aa (bo gA (aa (ab 7) (aa (ab 8) af))) af)))))) aI
   [some (.sh (.int cell)),some (.sh (.int least)),some (.sh (.int n)),some (.sh (.int kind)),some (.ow []),some (.sh (.int t)),none,none,none,none] =
   some (.nx [some (.sh (.int cell)),some (.sh (.int least)),some (.sh (.int n)),some (.sh (.int kind)),some (.ow (T1.map aq)),some (.sh (.int t)),a6,a7,a8,none])∧Good n T1∧T1.length≤100:=by
  by_cases h1:0<kind
  ·
   by_cases h2:1<n
   ·
    have hf:(ad bI (ad oSub (ab 2) (ac (.int 1))) (bo eO (aa (ad oSub (ab 3) (ac (.int 1))) (aa (ac (.int 1)) af)))) [some (.sh (.int cell)),some (.sh (.int least)),some (.sh (.int n)),some (.sh (.int kind)),some (.ow []),some (.sh (.int t)),none,none,none,none]=some (.sh (.int (n-1+min (kind-1) 1))):=by
     simp [←mS]
    have hr:=rngE hf (by omega) (by omega)
    obtain ⟨T',y6,y7,y8,i1,i2,i3⟩:=kR (n:=n) (e0:=some (.sh (.int cell))) (e1:=some (.sh (.int least))) (e2:=some (.sh (.int n))) (e3:=some (.sh (.int kind))) (e5:=some (.sh (.int t))) (e9:=none)
     (B:=ar (lF 7 8 (ad oMod (ad bQ (ab 6) (ab 5)) (ab 2)) (ad oMod (ad bQ (ad bI (ab 6) (ac (.int 1))) (ab 5)) (ab 2))) (cD 4 (cg (aa (bo eO (aa (ab 7) (aa (ab 8) af))) (aa (bo gA (aa (ab 7) (aa (ab 8) af))) af)))))
     (fun d=>∃ k:Int,d=.int k) (by
      rintro d T x7 x8 ⟨k,rfl⟩ hT hTl
      refine ⟨T++[tieB (k*t % n) ((k+1)*t % n)],_,_,seq1 (δ1:=[some (.sh (.int cell)),some (.sh (.int least)),some (.sh (.int n)),some (.sh (.int kind)),some (.ow (T.map aq)),some (.sh (.int t)),some (.sh (.int k)),some (.sh (.int (k*t % n))),some (.sh (.int ((k+1)*t % n))),none]) ?_ (app_tie (n:=n) hTl),?_,by simp⟩
      ·
       have m1:bQ (.int k) (.int t)=some (.sh (.int (k*t))):=mulR (by omega) (by omega)
       have m2:bQ (.int (k+1)) (.int t)=some (.sh (.int ((k+1)*t))):=mulR (by omega) (by omega)
       have m3:∀ i:Int,oMod (.int i) (.int n)=some (.sh (.int (i % n))):=fun i=>modP (by omega)
       simp [lF,m1,m2,m3]
      ·
       refine lP hT (ou (Int.emod_nonneg _ (by omega)) (Int.emod_lt_of_pos _ (by omega)) (Int.emod_nonneg _ (by omega)) (Int.emod_lt_of_pos _ (by omega)) (turn_ne (by omega) n8 ht)))
     ((List.range (n-1+min (kind-1) 1).toNat).map fun k=>D.int (0+((k:Nat):Int))) [] none none none (by
      intro d hd
      obtain ⟨k,_,rfl⟩:=List.mem_map.1 hd
      exact ⟨_,rfl⟩) (by intro u hu;simp at hu) (by simp;omega)
    refine ⟨T',y6,y7,y8,?_,i2,by simp at i3;omega⟩
    rw [dB]
    have ht:(dW (aj (ad oGt (ab 3) (ac (.int 0)))) (aj (ad oGt (ab 2) (ac (.int 1))))) [some (.sh (.int cell)),some (.sh (.int least)),some (.sh (.int n)),some (.sh (.int kind)),some (.ow []),some (.sh (.int t)),none,none,none,none]=some true:=by simp [h1,h2]
    rw [ht]
    simp only [Option.bind_some]
    rw [if_pos trivial]
    unfold bB
    rw [hr]
    exact i1
   ·
    exact ⟨[],none,none,none,by simp [h1,h2],by intro u hu;simp at hu,by simp⟩
  ·
   exact ⟨[],none,none,none,by simp [h1],by intro u hu;simp at hu,by simp⟩
 obtain ⟨v9,x9,y9⟩:=kS (ks:=[9,4]) (r:=min kind 1) (by omega) (by simp;omega) (fun v=>0<v∧v≤15) (by decide)
 have s7:sset 9 (ad oIx (cg (aa (ac (.int 9)) (aa (ac (.int 4)) af))) (bo eO (aa (ab 3) (aa (ac (.int 1)) af)))) [some (.sh (.int cell)),some (.sh (.int least)),some (.sh (.int n)),some (.sh (.int kind)),some (.ow (T1.map aq)),some (.sh (.int t)),a6,a7,a8,none] =
   some (.nx [some (.sh (.int cell)),some (.sh (.int least)),some (.sh (.int n)),some (.sh (.int kind)),some (.ow (T1.map aq)),some (.sh (.int t)),a6,a7,a8,some (.sh (.int v9))]):=dS (br (a:=.sh (.tup [.int 9,.int 4])) (b:=.sh (.int (min kind 1))) (by simp [b2]) (by simp [←mS]) x9) rfl rfl
 obtain ⟨r8,d8,p8,q8⟩:=jo c (fa:=ab 0) (fm:=ac (.int 4)) (δ:=[some (.sh (.int cell)),some (.sh (.int least)),some (.sh (.int n)),some (.sh (.int kind)),some (.ow (T1.map aq)),some (.sh (.int t)),a6,a7,a8,some (.sh (.int v9))]) (cell:=cell) (many:=4) 8 (by omega) rfl rfl (by omega)
 obtain ⟨most,s8,hmost⟩ : ∃ most,sif (aj (ad oEq (ay 3 (aJ c) (aa (ab 0) (aa (ac (.int 8)) (aa (ac (.int 4)) af)))) (ac (.int 0)))) (sset 9 (ac (.int 15))) aI [some (.sh (.int cell)),some (.sh (.int least)),some (.sh (.int n)),some (.sh (.int kind)),some (.ow (T1.map aq)),some (.sh (.int t)),a6,a7,a8,some (.sh (.int v9))] =
   some (.nx [some (.sh (.int cell)),some (.sh (.int least)),some (.sh (.int n)),some (.sh (.int kind)),some (.ow (T1.map aq)),some (.sh (.int t)),a6,a7,a8,some (.sh (.int most))])∧0<most∧most≤15:=by
  have ht:(aj (ad oEq (ay 3 (aJ c) (aa (ab 0) (aa (ac (.int 8)) (aa (ac (.int 4)) af)))) (ac (.int 0)))) [some (.sh (.int cell)),some (.sh (.int least)),some (.sh (.int n)),some (.sh (.int kind)),some (.ow (T1.map aq)),some (.sh (.int t)),a6,a7,a8,some (.sh (.int v9))]=some (decide (r8=0)):=by
   rw [dP,br (a:=.sh (.int r8)) (b:=.sh (.int 0)) d8 rfl rfl]
   simp
  rw [dB,ht]
  by_cases h0:r8=0
  ·
   exact ⟨15,by simp [h0],by omega,by omega⟩
  ·
   exact ⟨v9,by simp [h0],y9.1,y9.2⟩
 obtain ⟨cnt,d9,c0,c15⟩:=jo c (fa:=ab 0) (fm:=ab 9) (δ:=[some (.sh (.int cell)),some (.sh (.int least)),some (.sh (.int n)),some (.sh (.int kind)),some (.ow (T1.map aq)),some (.sh (.int t)),a6,a7,a8,some (.sh (.int most))]) (cell:=cell) (many:=most) 4 (by omega) rfl rfl (by omega)
 have hr2:=rngE d9 (by omega) (by omega)
 obtain ⟨T2,y6,y7,y8,i1,g2,i3⟩:=kR (n:=n) (e0:=some (.sh (.int cell))) (e1:=some (.sh (.int least))) (e2:=some (.sh (.int n))) (e3:=some (.sh (.int kind))) (e5:=some (.sh (.int t))) (e9:=some (.sh (.int most)))
  (B:=ar (sset 7 (ay 3 (aJ c) (aa (ad bQ (ad bI (ab 0) (ad bQ (ac (.int 977)) (ab 6))) (ad bI (ab 6) (ac (.int 3)))) (aa (ac (.int 5)) (aa (ab 2) af))))) (ar (sset 8 (ay 3 (aJ c) (aa (ad bQ (ad bI (ab 0) (ad bQ (ac (.int 31)) (ab 6))) (ad bI (ab 6) (ac (.int 5)))) (aa (ac (.int 6)) (aa (ab 2) af))))) (sif (aj (ad oNe (ab 7) (ab 8))) (cD 4 (cg (aa (bo eO (aa (ab 7) (aa (ab 8) af))) (aa (bo gA (aa (ab 7) (aa (ab 8) af))) af)))) aI)))
  (fun d=>∃ k:Int,d=.int k∧0≤k∧k≤100) (by
   rintro d T x7 x8 ⟨k,rfl,kk0,kk1⟩ hT hTl
   have m1:bQ (.int 977) (.int k)=some (.sh (.int (977*k))):=mulL (by omega) (by omega)
   have m2:bQ (.int 31) (.int k)=some (.sh (.int (31*k))):=mulL (by omega) (by omega)
   have m3:∀ i:Int,bQ (.int i) (.int (k+3))=some (.sh (.int (i*(k+3)))):=fun i=>mulR (by omega) (by omega)
   have m4:∀ i:Int,bQ (.int i) (.int (k+5))=some (.sh (.int (i*(k+5)))):=fun i=>mulR (by omega) (by omega)
   obtain ⟨u,du,u0,u1⟩:=jo c (fa:=ad bQ (ad bI (ab 0) (ad bQ (ac (.int 977)) (ab 6))) (ad bI (ab 6) (ac (.int 3)))) (fm:=ab 2) (δ:=[some (.sh (.int cell)),some (.sh (.int least)),some (.sh (.int n)),some (.sh (.int kind)),some (.ow (T.map aq)),some (.sh (.int t)),some (.sh (.int k)),x7,x8,some (.sh (.int most))]) (cell:=(cell+977*k)*(k+3)) (many:=n) 5 (by omega) (by simp [m1,m3]) rfl (by omega)
   obtain ⟨v,dv,v0,v1⟩:=jo c (fa:=ad bQ (ad bI (ab 0) (ad bQ (ac (.int 31)) (ab 6))) (ad bI (ab 6) (ac (.int 5)))) (fm:=ab 2) (δ:=[some (.sh (.int cell)),some (.sh (.int least)),some (.sh (.int n)),some (.sh (.int kind)),some (.ow (T.map aq)),some (.sh (.int t)),some (.sh (.int k)),some (.sh (.int u)),x8,some (.sh (.int most))]) (cell:=(cell+31*k)*(k+5)) (many:=n) 6 (by omega) (by simp [m2,m4]) rfl (by omega)
   by_cases huv:u=v
   ·
    refine ⟨T,some (.sh (.int u)),some (.sh (.int v)),seq1 (dS du rfl rfl) (seq1 (dS dv rfl rfl) ?_),hT,by omega⟩
    show sif _ _ _ [some (.sh (.int cell)),some (.sh (.int least)),some (.sh (.int n)),some (.sh (.int kind)),some (.ow (T.map aq)),some (.sh (.int t)),some (.sh (.int k)),some (.sh (.int u)),some (.sh (.int v)),some (.sh (.int most))]=_
    simp [huv]
   ·
    refine ⟨T++[tieB u v],some (.sh (.int u)),some (.sh (.int v)),seq1 (dS du rfl rfl) (seq1 (dS dv rfl rfl) ?_),lP hT (ou u0 u1 v0 v1 huv),by simp⟩
    show sif _ _ _ [some (.sh (.int cell)),some (.sh (.int least)),some (.sh (.int n)),some (.sh (.int kind)),some (.ow (T.map aq)),some (.sh (.int t)),some (.sh (.int k)),some (.sh (.int u)),some (.sh (.int v)),some (.sh (.int most))]=_
    rw [dB]
    have ht:(aj (ad oNe (ab 7) (ab 8))) [some (.sh (.int cell)),some (.sh (.int least)),some (.sh (.int n)),some (.sh (.int kind)),some (.ow (T.map aq)),some (.sh (.int t)),some (.sh (.int k)),some (.sh (.int u)),some (.sh (.int v)),some (.sh (.int most))]=some true:=by simp [huv]
    rw [ht]
    exact app_tie (n:=n) hTl)
  ((List.range cnt.toNat).map fun k=>D.int (0+((k:Nat):Int))) T1 a6 a7 a8 (by
   intro d hd
   obtain ⟨k,hk,rfl⟩:=List.mem_map.1 hd
   rw [List.mem_range] at hk
   exact ⟨_,rfl,by omega,by omega⟩) g1 (by simp;omega)
 obtain ⟨r7,d7,_,_⟩:=jo c (fa:=ab 0) (fm:=ac (.int 2)) (δ:=[some (.sh (.int cell)),some (.sh (.int least)),some (.sh (.int n)),some (.sh (.int kind)),some (.ow (T2.map aq)),some (.sh (.int t)),y6,y7,y8,some (.sh (.int most))]) (cell:=cell) (many:=2) 7 (by omega) rfl rfl (by omega)
 obtain ⟨T3,s10,g3⟩ : ∃ T3:List Tie,sif (aj (ad oEq (ay 3 (aJ c) (aa (ab 0) (aa (ac (.int 7)) (aa (ac (.int 2)) af)))) (ac (.int 0)))) (sset 4 (drev (ab 4) (dun ig (ac (.int 1))))) aI [some (.sh (.int cell)),some (.sh (.int least)),some (.sh (.int n)),some (.sh (.int kind)),some (.ow (T2.map aq)),some (.sh (.int t)),y6,y7,y8,some (.sh (.int most))] =
   some (.nx [some (.sh (.int cell)),some (.sh (.int least)),some (.sh (.int n)),some (.sh (.int kind)),some (.ow (T3.map aq)),some (.sh (.int t)),y6,y7,y8,some (.sh (.int most))])∧Good n T3:=by
  have ht:(aj (ad oEq (ay 3 (aJ c) (aa (ab 0) (aa (ac (.int 7)) (aa (ac (.int 2)) af)))) (ac (.int 0)))) [some (.sh (.int cell)),some (.sh (.int least)),some (.sh (.int n)),some (.sh (.int kind)),some (.ow (T2.map aq)),some (.sh (.int t)),y6,y7,y8,some (.sh (.int most))]=some (decide (r7=0)):=by
   rw [dP,br (a:=.sh (.int r7)) (b:=.sh (.int 0)) d7 rfl rfl]
   simp
  rw [dB,ht]
  by_cases h0:r7=0
  ·
   refine ⟨T2.reverse,?_,fun u hu=>g2 u (by simpa using hu)⟩
   simp [h0,drev,mR]
  ·
   exact ⟨T2,by simp [h0],g2⟩
 refine ⟨n,T3.take 14,?_,⟨n1,n8,by simp;omega,fun u hu=>g3 u (List.mem_of_mem_take hu)⟩,by omega⟩
 refine bD (r:=.sh (aS n (T3.take 14))) rfl (seq1 s1 (seq1 s2 (seq1 s3 (seq1 s4 (seq1 s5 (seq1 s6 (seq1 s7 (seq1 s8 (seq1 (δ1:=[some (.sh (.int cell)),some (.sh (.int least)),some (.sh (.int n)),some (.sh (.int kind)),some (.ow (T2.map aq)),some (.sh (.int t)),y6,y7,y8,some (.sh (.int most))]) ?_ (seq1 s10 ?_)))))))))) rfl
 ·
  rw [iR]
  show bB _ _ _ [some (.sh (.int cell)),some (.sh (.int least)),some (.sh (.int n)),some (.sh (.int kind)),some (.ow (T1.map aq)),some (.sh (.int t)),a6,a7,a8,some (.sh (.int most))]=_
  unfold bB
  rw [hr2]
  exact i1
 ·
  simp [iQ,gB,ic,cut14,b2,aS]
end Pg
end
section
set_option linter.all false
set_option Elab.async false
set_option maxRecDepth 100000
namespace Pg
open PySem PySem.Spec L2 Ew Mx
variable (c:CA)
theorem scr_0 (K:PySem.W.Frag) (ns:List Int) (r:DSt):fH K 0 (some (.scr K ns)::r)=some ns:=by
 unfold fH
 simp
theorem kT (K:PySem.W.Frag) (ns:List Int) {k:Int} (hk:0≤k):∃ v,a9 c K ns k=some v:=by
 unfold a9 runS
 show ∃ v,(match bU c K [some (.scr K ns),some (.sh (.int k))] with | some (.rt (.sh (.int j)))=>some j | _=>none)=some v
 by_cases h:k<(ns.length:Int)
 ·
  have hk2:k.toNat<ns.length:=by omega
  refine ⟨ns[k.toNat],?_⟩
  have:bU c K [some (.scr K ns),some (.sh (.int k))]=some (.rt (.sh (.int (ns[k.toNat])))):=by
   simp [bU,dlenS,dixS,scr_0,h,oo hk,List.getElem?_eq_getElem hk2]
  rw [this]
 ·
  refine ⟨0,?_⟩
  have:bU c K [some (.scr K ns),some (.sh (.int k))]=some (.rt (.sh (.int 0))):=by
   simp [bU,dlenS,scr_0,h]
  rw [this]
theorem kU {K:PySem.W.Frag} {ns:List Int} {r:DSt} {f:FE} {k v:Int} (h:f (some (.scr K ns)::r)=some (.sh (.int k))) (hv:a9 c K ns k=some v):fq K 0 (a9 c K) f (some (.scr K ns)::r)=some (.sh (.int v)):=by
 unfold fq
 rw [h]
 simp [scr_0,hv]
theorem ph (T:List Tie) (ps:List Int) (hT:T.length≤1000):dr c [.lst (T.map aq),ao ps]=some (.int ((T.filter (cn ps)).length:Int)):=by
 have c1:=cC (fi:=aZ (ab 0)) (g:=eG 2 (aX (am 0) (aX (am 1) eM))) (t:=aj (ad oNe (ad oIn (ab 0) (ab 2)) (ad oIn (ab 1) (ab 2)))) (fe:=ac (.int 1)) (m:=2) (ix:=[1]) (δ:=[some (.sh (.lst (T.map aq))),some (.sh (ao ps))]) (items:=T.map aq) rfl (by simpa using hT) (cA _ _ _ _ aq (cn ps) (fun _=>D.int 1) T (fun t _=>by
  refine ⟨_,rfl,?_,fun _=>⟨.sh (.int 1),rfl,rfl,rfl⟩⟩
  simp [dIn,ao,oNe_bb,cn]))
 refine bD (r:=.sh (.int _)) rfl (ret1 ?_ rfl) rfl
 rw [dY,aN]
 erw [c1]
 simp
theorem jp {n:Int} {e0:Option E}:∀ (ps:List Int) (last:Int) (x:Option E),(∀ p∈ps,last<p∧p<n)→ps.Pairwise (·<·)→
  ∃ y z,ba (am 3) (ar (sif ((cq (aj (ax is_bool (ab 3))) (cq (bh (aj (ax dX (ab 3)))) (bh (aj (cO oLt oLt (ab 2) (ab 3) (ab 1))))))) (aT (ac (.bl false))) aI) (sset 2 (ab 3))) (ps.map .int) [e0,some (.sh (.int n)),some (.sh (.int last)),x]=some (.nx [e0,some (.sh (.int n)),y,z])
 | [],last,x,_,_=>⟨_,_,rfl⟩
 | p::ps,last,x,h,hp=>by
  rw [List.pairwise_cons] at hp
  obtain ⟨y,z,ih⟩:=jp (n:=n) (e0:=e0) ps p (some (.sh (.int p))) (fun q hq=>⟨hp.1 q hq,(h q (by simp [hq])).2⟩) hp.2
  refine ⟨y,z,?_⟩
  rw [List.map_cons]
  unfold ba
  have hg:am 3 (.int p) [e0,some (.sh (.int n)),some (.sh (.int last)),x]=some [e0,some (.sh (.int n)),some (.sh (.int last)),some (.sh (.int p))]:=rfl
  rw [hg]
  have h1:=h p (by simp)
  have hb:(ar (sif ((cq (aj (ax is_bool (ab 3))) (cq (bh (aj (ax dX (ab 3)))) (bh (aj (cO oLt oLt (ab 2) (ab 3) (ab 1))))))) (aT (ac (.bl false))) aI) (sset 2 (ab 3))) [e0,some (.sh (.int n)),some (.sh (.int last)),some (.sh (.int p))]=some (.nx [e0,some (.sh (.int n)),some (.sh (.int p)),some (.sh (.int p))]):=by
   simp [ax,is_bool,dX,h1]
  simp only [Option.bind_some]
  rw [hb]
  simp only [Option.bind_some,cB]
  exact ih
theorem ox {n:Int} {ps:List Int} (h:∀ p∈ps,0≤p∧p<n) (hp:ps.Pairwise (·<·)):dR c [ao ps,.int n]=some (.bl true):=by
 obtain ⟨y,z,hl⟩:=jp (n:=n) (e0:=some (.sh (ao ps))) ps (-1) none (fun p hp=>⟨by have:=h p hp;omega,(h p hp).2⟩) hp
 refine bD (r:=.sh (.bl true)) rfl (seq1 (δ1:=[some (.sh (ao ps)),some (.sh (.int n)),none,none]) (by simp [ax,fj,ao]) (seq1 (δ1:=[some (.sh (ao ps)),some (.sh (.int n)),some (.sh (.int (-1))),none]) (by simp [mR]) (seq1 (δ1:=[some (.sh (ao ps)),some (.sh (.int n)),y,z]) ?_ rfl))) rfl
 simp only [bB,fk,fY,List.getElem?_cons_zero,List.getElem?_cons_succ,Option.bind_some,eB,bz,ao]
 simp only [Bool.false_eq_true,if_false,Option.bind_some]
 exact hl
end Pg
end
section
set_option linter.all false
set_option Elab.async false
set_option maxRecDepth 100000
namespace Pg
open PySem PySem.Spec L2 Ew Mx
variable (c:CA)
theorem gk (ns:List Int):(srt ns).Perm ns:=List.mergeSort_perm _ _
theorem srt_le (ns:List Int):(srt ns).Pairwise (·≤·):=by
 have:=List.pairwise_mergeSort (le:=fun (a b:Int)=>decide (a≤b)) (fun a b c h1 h2=>by simp at *;omega) (fun a b=>by simp;omega) ns
 exact this.imp (fun h=>by simpa using h)
theorem srt_lt {ns:List Int} (nd:ns.Nodup):(srt ns).Pairwise (·<·):=by
 have h1:=srt_le ns
 have h2:(srt ns).Nodup:=(List.Perm.nodup_iff (gk ns)).2 nd
 exact (List.Pairwise.and h1 h2).imp (fun ⟨a,b⟩=>by omega)
theorem pts_lt (n:Int):(pts n).Pairwise (·<·):=by
 unfold pts
 rw [List.pairwise_map]
 exact (List.pairwise_lt_range).imp (fun h=>by omega)
theorem isSet_srt {n:Int} {ns:List Int} (nd:ns.Nodup) (h:∀ p∈ns,0≤p∧p<n):isSet n (srt ns)=true:=by
 unfold isSet
 rw [decide_eq_true_eq]
 have hp:((pts n).filter (srt ns).contains).Perm ns:=by
  rw [List.perm_ext_iff_of_nodup (mL (gt n)) nd]
  intro a
  rw [List.mem_filter,eD]
  simp only [List.contains_iff_mem,(gk ns).mem_iff]
  constructor
  ·
   exact fun h=>h.2
  ·
   exact fun ha=>⟨h a ha,ha⟩
 exact (srt_eq hp ((pts_lt n).filter _ |>.imp (fun h=>by omega))).symm
end Pg
end
section
set_option linter.all false
set_option Elab.async false
set_option maxRecDepth 100000
namespace Pg
open PySem PySem.Spec L2 Ew Mx
variable (c:CA)
theorem setN1 {i:Nat} {g:FN} {δ δ':DSt} {d:D} (h:g δ=some d) (hd:δ.set i (some (.nw d))=δ'):gC i g δ=some (.nx δ'):=by rw [ssetN_e,h,Option.bind_some,hd]
theorem gG {i:Nat} {t:DSt→Option Bool} {F G:FS} {δ:DSt} {x:Option Res} (h:t (frz i δ)=some false) (h2:G δ=x):eR i t F G δ=x:=by rw [sifB_e,h];simpa using h2
theorem ifB_t {i:Nat} {t:DSt→Option Bool} {F G:FS} {δ:DSt} {x:Option Res} (h:t (frz i δ)=some true) (h2:F δ=x):eR i t F G δ=x:=by rw [sifB_e,h];simpa using h2
theorem iD {t u:DSt→Option Bool} {δ:DSt} {x:Option Bool} (h:t δ=some false) (h2:u δ=x):cq t u δ=x:=by rw [dtOr_e,h];simpa using h2
theorem iE {t:DSt→Option Bool} {δ:DSt} {b:Bool} (h:t δ=some b):bh t δ=some (!b):=by rw [jW,h];rfl
theorem b9 {f:FE} {δ:DSt} {b:Bool} (h:f δ=some (.sh (.bl b))):aj f δ=some b:=by rw [dP,h];rfl
theorem dL {ans:D→Option Bool} {f:FE} {δ:DSt} {d:D} {b:Bool} (h:f δ=some (.sh d)) (ha:ans d=some b):ax ans f δ=some (.sh (.bl b)):=by
 unfold ax
 rw [h]
 simp [ha]
theorem mU {f:FE} {δ:DSt} {a b:Bool} (h:f δ=some (.sh (.bl a))):aj (ad gO f (ac (.bl b))) δ=some (!decide (a=b)):=by
 rw [dP,br (a:=.sh (.bl a)) (b:=.sh (.bl b)) h rfl rfl]
 cases a <;> cases b <;> rfl
theorem iZ {f:FE} {δ:DSt} {n:Int} {T:List Tie} (h:f δ=some (.sh (aS n T))):ad oIx f (ac (.int 0)) δ=some (.sh (.int n)):=br h rfl (by simp [aS,cQ])
theorem i7 {f:FE} {δ:DSt} {n:Int} {T:List Tie} (h:f δ=some (.sh (aS n T))):ad oIx f (ac (.int 1)) δ=some (.sh (.lst (T.map aq))):=br h rfl (by simp [aS,cX])
theorem lkp {A:Type} {a:A}:List.lookup ("points" : Str) [("points",a)]=some a:=rfl
theorem lkp2 {A:Type} {a:A}:List.lookup ("shows" : Str) [(("points" : Str),a)]=none:=rfl
end Pg
end
section
set_option linter.all false
set_option Elab.async false
set_option maxRecDepth 100000
namespace Pg
open PySem PySem.Spec L2 Ew Mx
variable (c:CA)
theorem lQ (s:Int×Int×Int):eSt s=.tup [.int s.1,.int s.2.1,.int s.2.2]:=rfl
theorem lR (p a b:Int):oNotIn (.int p) (.tup [.int a,.int b])=some (.sh (.bl (decide (p∉[a,b])))):=by
 have h:Ew.okD (.tup [.int a,.int b])=true:=ET.okD (show max 1 1+1≤16 by decide) (a,b)
 show (if okD (.int p)=true∧okD (.tup [.int a,.int b])=true then some (R.sh (.bl (!([D.int a,D.int b]).any fun y=>eqP y (.int p)))) else none)=_
 rw [if_pos ⟨di p,h⟩]
 have:=Enc.any Enc.int p [a,b]
 simp only [Enc.int,List.map_cons,List.map_nil] at this
 rw [this]
 by_cases h:p∈[a,b] <;> simp [h]
theorem beside_eq (L:aY Int Int) (p:Int) (hL:L.length≤1000):d0 c [.lst (L.map eSt),.int p]=some (.lst ((bW L p).map eSt)):=by
 refine bD (r:=.fr _) rfl ?_ rfl
 have:=cC (fi:=aZ (ab 0)) (g:=am 0) (t:=aj (ad oNotIn (ab 1) (dslT (ab 0) ic (gB (ac (.int 2)))))) (fe:=ab 0) (m:=1) (ix:=[1]) (δ:=[some (.sh (.lst (L.map eSt))),some (.sh (.int p))]) rfl (by simpa using hL) (cA _ _ _ _ eSt (fun s=>decide (p∉[s.1,s.2.1])) eSt L (fun s _=>by
  refine ⟨_,rfl,?_,fun _=>⟨.sh (eSt s),rfl,rfl,rfl⟩⟩
  have e1:dslT (ab 0) ic (gB (ac (.int 2))) [some (E.sh (eSt s)),some (.sh (.int p))]=some (.sh (.tup [.int s.1,.int s.2.1])):=rfl
  have e2:aj (ad oNotIn (ab 1) (dslT (ab 0) ic (gB (ac (.int 2))))) [some (E.sh (eSt s)),some (.sh (.int p))]=some (decide (p∉[s.1,s.2.1])):=by
   rw [dP,br (a:=.sh (.int p)) (b:=.sh (.tup [.int s.1,.int s.2.1])) rfl e1 (lR p s.1 s.2.1)]
   rfl
  exact e2))
 exact ret1 this rfl
theorem saw_eq (s:Int×Int×Int) (w:Wlk Int Int) (h1:w.1.length≤500) (h2:w.2.length≤500):bR c [eSt s,eWk w]=some (eWk (s.1::w.1,s.2.2::w.2)):=by
 have f1:=dU w.1
 have f2:=dU w.2
 have b2:(2:Nat)≤big:=by decide
 have b1:(1:Nat)≤big:=by decide
 have b3:1+w.1.length≤big:=by rw [bj];omega
 have b4:1+w.2.length≤big:=by rw [bj];omega
 have b5:w.1.length+1≤big:=by rw [bj];omega
 have b6:w.2.length+1≤big:=by rw [bj];omega
 simp only [List.all_map] at f1 f2
 simp [bR,fM,lQ,eWk,aU,cQ,cX,atI_2,Enc.int,b1,b2,b3,b4,b5,b6,bI] at f1 f2 ⊢
def outI:Option (Wlk Int Int)→D:=outW Enc.int Enc.int
theorem fF {L:aY Int Int} {a:Int} {ends:List Int} {w:Wlk Int Int} (hU:iV L) (hL:L.length≤90) (h:cE 100 L a ends=some w):w.1.length=w.2.length+1∧w.2.length≤L.length:=by
 have B:=iU (L:=L) (a:=a) (ends:=ends) (n:=100) (by omega)
 rw [h] at B
 obtain ⟨b,_,sw⟩:=B
 have h1:=List.Nodup.length_le_of_subset sw.stepsNodup (l₂:=L) (fun s hs=>(sw.step s hs).1)
 have h2:=congrArg List.length sw.names
 simp at h2
 exact ⟨sw.len,by omega⟩
theorem mV {m:List D→Option D} {f1:FE} {δ:DSt} {r1:R} {d:D} (h1:f1 δ=some r1) (hm:m [r1.view]=some d) (hb:r1.isBw=false):cP 1 m (aa f1 af) δ=some d:=by
 simp [mE,h1,hm,hb]
theorem mW {m:List D→Option D} {f1 f2:FE} {δ:DSt} {r1 r2:R} {d:D} (h1:f1 δ=some r1) (h2:f2 δ=some r2) (hm:m [r1.view,r2.view]=some d) (hb:r1.isBw=false∧r2.isBw=false):cP 2 m (aa f1 (aa f2 af)) δ=some d:=by
 simp [mE,h1,h2,hm,hb]
theorem ncall3 {m:List D→Option D} {f1 f2 f3:FE} {δ:DSt} {r1 r2 r3:R} {d:D} (h1:f1 δ=some r1) (h2:f2 δ=some r2) (h3:f3 δ=some r3) (hm:m [r1.view,r2.view,r3.view]=some d) (hb:r1.isBw=false∧r2.isBw=false∧r3.isBw=false):cP 3 m (aa f1 (aa f2 (aa f3 af))) δ=some d:=by
 simp [mE,h1,h2,h3,hm,hb]
theorem gY {k:Nat} {F:FS} {ds:List D} {δ:DSt} {d:D} (h0:ds.map (fun d=>some (E.sh d))++List.replicate (k-ds.length) none=δ) (h:F δ=some (.rn d)):Ew.runN k F ds=some d:=by
 unfold Ew.runN
 rw [h0,h]
theorem st_0 {f:FE} {δ:DSt} {s:Int×Int×Int} (h:f δ=some (.sh (eSt s))):ad oIx f (ac (.int 0)) δ=some (.sh (.int s.1)):=br h rfl (by simp [lQ,cQ])
theorem st_1 {f:FE} {δ:DSt} {s:Int×Int×Int} (h:f δ=some (.sh (eSt s))):ad oIx f (ac (.int 1)) δ=some (.sh (.int s.2.1)):=br h rfl (by simp [lQ,cX])
theorem st_2 {f:FE} {δ:DSt} {s:Int×Int×Int} (h:f δ=some (.sh (eSt s))):ad oIx f (ac (.int 2)) δ=some (.sh (.int s.2.2)):=br h rfl (by simp [lQ,atI_2])
theorem gl {L M:aY Int Int} (h:∀ s∈M,s∈L) (U:iV L):iV M:=fun s hs t ht e=>U s (h s hs) t (h t ht) e
theorem kW {L:aY Int Int} {p:Int}:∀ s∈bW L p,s∈L:=fun s hs=>(dd.1 hs).1
theorem j8 {L:aY Int Int} {ns:List Int}:∀ s∈al L ns,s∈L:=fun s hs=>(List.mem_filter.1 hs).1
theorem retN1 {g:FN} {δ:DSt} {d:D} (h:g δ=some d):il g δ=some (.rn d):=by rw [sretN_e,h];rfl
theorem oy {L:aY Int Int} (hU:iV L) (hL:L.length≤90) (met:List Int) (s:Int×Int×Int) :
  gU c [.lst (L.map eSt),ao met,eSt s]=some (outI (dn 100 L met s)):=by
 have hb:=beside_eq c L s.1 (by omega)
 have hl:(bW L s.1).length≤90:=Nat.le_trans gR hL
 have hw:bu c [.lst ((bW L s.1).map eSt),.int s.2.1,ao met]=some (outI (cE 100 (bW L s.1) s.2.1 met)):=eW c Enc.int Enc.int (by decide) (by decide) _ _ _ hl
 refine gY rfl (seq1 (δ1:=[some (.sh (.lst (L.map eSt))),some (.sh (ao met)),some (.sh (eSt s)),some (.sh (outI (cE 100 (bW L s.1) s.2.1 met)))]) ?_ ?_)
 ·
  exact dS (call3 (r1:=.sh _) (r2:=.sh _) (r3:=.sh _) (cZ (r1:=.sh _) (r2:=.sh _) rfl (st_0 (f:=ab 2) rfl) hb (.inl ⟨rfl,rfl⟩)) (st_1 (f:=ab 2) rfl) rfl hw (.inl ⟨rfl,rfl,rfl⟩)) rfl rfl
 ·
  refine retN1 ?_
  unfold dn
  cases e:cE 100 (bW L s.1) s.2.1 met with
  | none=>rfl
  | some w=>
   obtain ⟨l1,l2⟩:=fF (gl kW hU) hl e
   have h3:=saw_eq c s w (by omega) (by omega)
   have t1:aj (ad oIs (ab 3) (ac .non)) [some (.sh (.lst (L.map eSt))),some (.sh (ao met)),some (.sh (eSt s)),some (.sh (outI (some w)))]=some false:=rfl
   rw [nif_e,t1,Option.bind_some,if_neg Bool.false_ne_true]
   exact mW (r1:=.sh (eSt s)) (r2:=.sh (eWk w)) rfl rfl h3 ⟨rfl,rfl⟩
theorem mX {L:aY Int Int} (hU:iV L) (hL:L.length≤90) (s:Int×Int×Int) {w:Wlk Int Int} (h:eS 100 L s=some w) :
  gg c [.lst (L.map eSt),eSt s]=some (eWk w):=by
 have b1:(1:Nat)≤big:=by decide
 have hb:bn c [.lst (L.map eSt),ao [s.2.2]]=some (.lst ((al L [s.2.2]).map eSt)):=fA c Enc.int Enc.int (by decide) L [s.2.2] (by omega)
 have hl:(al L [s.2.2]).length≤90:=Nat.le_trans dq hL
 have hw:bu c [.lst ((al L [s.2.2]).map eSt),.int s.2.1,ao [s.1]]=some (outI (cE 100 (al L [s.2.2]) s.2.1 [s.1])):=eW c Enc.int Enc.int (by decide) (by decide) _ _ _ hl
 unfold eS at h
 cases e:cE 100 (al L [s.2.2]) s.2.1 [s.1] with
 | none=>rw [e] at h;cases h
 | some v=>
  rw [e] at h hw
  cases h
  obtain ⟨l1,l2⟩:=fF (gl j8 hU) hl e
  have h3:=saw_eq c s v (by omega) (by omega)
  refine gY rfl (retN1 (mW (r1:=.sh (eSt s)) (r2:=.sh (eWk v)) rfl (call3 (r1:=.sh _) (r2:=.sh _) (r3:=.fr _) (cZ (r1:=.sh _) (r2:=.fr _) rfl ?_ hb (.inl ⟨rfl,rfl⟩)) (st_1 (f:=ab 1) rfl) ?_ hw (.inl ⟨rfl,rfl,rfl⟩)) h3 ⟨rfl,rfl⟩))
  ·
   rw [dlst_e,aN,st_2 (f:=ab 1) rfl]
   simp [b1]
  ·
   rw [dlst_e,aN,st_0 (f:=ab 1) rfl]
   simp [b1]
theorem oz {L:aY Int Int} (hU:iV L) (hL:L.length≤90) (met:List Int) {w:Wlk Int Int} (h:dQ 100 L met=some w) :
  fy c [.lst (L.map eSt),ao met]=some (eWk w):=by
 have c1:=cC (fi:=aZ (ab 0)) (g:=am 0) (t:=aj (ad oIn (ad oIx (ab 0) (ac (.int 0))) (ab 1))) (fe:=ab 0) (m:=1) (ix:=[1]) (δ:=[some (.sh (.lst (L.map eSt))),some (.sh (ao met)),none,none]) rfl (by simp;omega) (cA _ _ _ _ eSt (fun s=>decide (s.1∈met)) eSt L (fun s _=>by
  refine ⟨_,rfl,?_,fun _=>⟨.sh (eSt s),rfl,rfl,rfl⟩⟩
  simp [dIn,lQ,cQ,ao]))
 unfold dQ at h
 cases ef:L.filter fun s=>decide (s.1∈met) with
 | nil=>rw [ef] at h;cases h
 | cons s rest=>
  rw [ef] at h c1
  simp only at h
  have hw:=oy c hU hL met s
  refine gY rfl (seq1 (δ1:=[some (.sh (.lst (L.map eSt))),some (.sh (ao met)),some (.sh (eSt s)),none]) ?_ (seq1 (δ1:=[some (.sh (.lst (L.map eSt))),some (.sh (ao met)),some (.sh (eSt s)),some (.nw (outI (dn 100 L met s)))]) ?_ ?_))
  ·
   exact dS (br (b:=.sh (.int 0)) c1 rfl (by simp [cQ];rfl)) rfl rfl
  ·
   rw [iR]
   exact setN1 (ncall3 (r1:=.sh _) (r2:=.sh _) (r3:=.sh _) rfl rfl rfl hw ⟨rfl,rfl,rfl⟩) rfl
  ·
   rw [iR]
   cases e:dn 100 L met s with
   | none=>
    rw [e] at h
    have hr:=mX c hU hL s h
    have t1:aj (ad oIs (ab 3) (ac .non)) (frz 3 [some (.sh (.lst (L.map eSt))),some (.sh (ao met)),some (.sh (eSt s)),some (.nw (outI none))])=some true:=rfl
    show iq 3 _ _ [some (.sh (.lst (L.map eSt))),some (.sh (ao met)),some (.sh (eSt s)),some (.nw (outI none))]=_
    unfold iq
    rw [t1]
    show (cP 2 _ _ (frz 3 _)).bind _=_
    rw [mW (r1:=.sh (.lst (L.map eSt))) (r2:=.sh (eSt s)) rfl rfl hr ⟨rfl,rfl⟩]
    rfl
   | some v=>
    rw [e] at h
    cases h
    rfl
end Pg
end
section
set_option linter.all false
set_option Elab.async false
set_option maxRecDepth 100000
namespace Pg
open PySem PySem.Spec L2 Ew Mx
variable (c:CA)
theorem kX {L:aY Int Int} (hU:iV L) (hL:L.length≤90) {met:List Int} {e:Wlk Int Int} (h:dQ 100 L met=some e):e.1.length=e.2.length+1∧e.2.length≤91:=by
 unfold dQ at h
 cases ef:L.filter fun s=>decide (s.1∈met) with
 | nil=>rw [ef] at h;cases h
 | cons s rest=>
  rw [ef] at h
  simp only at h
  cases ew:dn 100 L met s with
  | none=>
   rw [ew] at h
   unfold eS at h
   cases q:cE 100 (al L [s.2.2]) s.2.1 [s.1] with
   | none=>rw [q] at h;cases h
   | some v=>
    rw [q] at h
    cases h
    have hl:(al L [s.2.2]).length≤90:=Nat.le_trans dq hL
    obtain ⟨l1,l2⟩:=fF (gl j8 hU) hl q
    simp
    omega
  | some v=>
   rw [ew] at h
   cases h
   unfold dn at ew
   cases q:cE 100 (bW L s.1) s.2.1 met with
   | none=>rw [q] at ew;cases ew
   | some v=>
    rw [q] at ew
    cases ew
    have hl:(bW L s.1).length≤90:=Nat.le_trans gR hL
    obtain ⟨l1,l2⟩:=fF (gl kW hU) hl q
    simp
    omega
def bodyE:FS:=(ar (iT 2 4 (cP 2 (fy c) (aa (ab 3) (aa (ab 2) af)))) (ar (sfrz 4 (cD 1 (ab 4))) (ar (sext 2 (ad oIx (ab 4) (ac (.int 0)))) (sset 3 (ay 2 (bn c) (aa (ab 3) (aa (ad oIx (ab 4) (ac (.int 1))) af)))))))
theorem ears_body {e0 x4:Option E} {L:aY Int Int} (hU:iV L) (hL:L.length≤90) {met:List Int} {acc:List (Wlk Int Int)} {e:Wlk Int Int} (h:dQ 100 L met=some e) (ha:acc.length≤1000) (hm:met.length≤50000) :
  bodyE c [e0,some (.ow (acc.map eWk)),some (.ow (met.map .int)),some (.sh (.lst (L.map eSt))),x4] =
   some (.nx [e0,some (.ow ((acc++[e]).map eWk)),some (.ow ((met++e.1).map .int)),some (.sh (.lst ((al L e.2).map eSt))),some (.sh (eWk e))]):=by
 have hn:=oz c hU hL met h
 obtain ⟨l1,l2⟩:=kX hU hL h
 have hb:bn c [.lst (L.map eSt),ao e.2]=some (.lst ((al L e.2).map eSt)):=fA c Enc.int Enc.int (by decide) L e.2 (by omega)
 refine seq1 (δ1:=[e0,some (.ow (acc.map eWk)),some (.ow (met.map .int)),some (.sh (.lst (L.map eSt))),some (.nw (eWk e))]) ?_ (seq1 (δ1:=[e0,some (.ow ((acc++[e]).map eWk)),some (.ow (met.map .int)),some (.sh (.lst (L.map eSt))),some (.sh (eWk e))]) ?_ (seq1 (δ1:=[e0,some (.ow ((acc++[e]).map eWk)),some (.ow ((met++e.1).map .int)),some (.sh (.lst (L.map eSt))),some (.sh (eWk e))]) ?_ ?_))
 ·
  unfold iT
  rw [mW (r1:=.sh (.lst (L.map eSt))) (r2:=.sh (ao met)) rfl rfl hn ⟨rfl,rfl⟩]
  rfl
 ·
  rw [iR]
  show cD 1 (ab 4) [e0,some (.ow (acc.map eWk)),some (.ow (met.map .int)),some (.sh (.lst (L.map eSt))),some (.sh (eWk e))]=_
  have b1:acc.length≤big:=by rw [bj];omega
  simp [cD,b1]
 ·
  unfold sext
  show (ad oIx (ab 4) (ac (.int 0)) _).bind _=_
  rw [eWk_0 (w:=e) rfl]
  show (if (met.map D.int).length+(e.1.map D.int).length≤big then _ else _)=_
  rw [if_pos (by rw [bj];simp only [List.length_map];omega)]
  simp
 ·
  exact dS (cZ (r1:=.sh _) (r2:=.sh _) rfl (eWk_1 (w:=e) rfl) hb (.inl ⟨rfl,rfl⟩)) rfl rfl
theorem lS {e0:Option E}:∀ (f:Nat) (L:aY Int Int) (met:List Int) (acc out:List (Wlk Int Int)) (x4:Option E),cw 100 f L met acc=some out→iV L→L.length≤90→acc.length+f≤1000→met.length+100*f≤50000→
  ∃ y2 y3 y4,cH (aj (ad oGt (az bx (aa (ab 3) af)) (ac (.int 0)))) (bodyE c) f [e0,some (.ow (acc.map eWk)),some (.ow (met.map .int)),some (.sh (.lst (L.map eSt))),x4]=some (.nx [e0,some (.ow (out.map eWk)),y2,y3,y4])
 | 0,L,met,acc,out,x4,h,_,_,_,_=>by cases h
 | f+1,L,met,acc,out,x4,h,hU,hL,ha,hm=>by
  unfold cw at h
  unfold cH
  have ht:(aj (ad oGt (az bx (aa (ab 3) af)) (ac (.int 0)))) [e0,some (.ow (acc.map eWk)),some (.ow (met.map .int)),some (.sh (.lst (L.map eSt))),x4]=some (decide (0<L.length)):=by
   simp
  rw [ht,Option.bind_some]
  by_cases he:L=[]
  ·
   rw [if_pos he] at h
   cases h
   subst he
   exact ⟨_,_,_,rfl⟩
  ·
   rw [if_neg he] at h
   have hp:0<L.length:=List.length_pos_iff.mpr he
   rw [if_pos (by simpa using hp)]
   cases en:dQ 100 L met with
   | none=>rw [en] at h;cases h
   | some e=>
    rw [en] at h
    simp only at h
    obtain ⟨l1,l2⟩:=kX hU hL en
    rw [ears_body c hU hL en (by omega) (by omega)]
    simp only [Option.bind_some,cB]
    exact lS f (al L e.2) (met++e.1) (acc++[e]) out (some (.sh (eWk e))) h (gl j8 hU) (Nat.le_trans dq hL) (by simp;omega) (by simp;omega)
theorem oA {n:Int} {T:List Tie} (W:bc n T) {out:List (Wlk Int Int)} (h:cw 100 100 (aw T) [0] []=some out):gV c [av c n T]=some (.lst (out.map eWk)):=by
 have hT:=W.2.2.1
 have hl:=ce T
 have hs:=jn c n T (by omega)
 obtain ⟨y2,y3,y4,hw⟩:=lS c (e0:=some (.sh (av c n T))) 100 (aw T) [0] [] out none h (iC T) (by omega) (by simp) (by simp)
 have b1:(1:Nat)≤big:=by decide
 have hF:kI c=(ar (sset 1 (cf af)) (ar (sset 2 (cf (aa (ac (.int 0)) af))) (ar (sset 3 (ay 1 (cF c) (aa (ab 0) af))) (ar (cH (aj (ad oGt (az bx (aa (ab 3) af)) (ac (.int 0)))) (bodyE c) 100) (h9 1))))):=rfl
 refine bD (r:=.fr _) rfl ?_ rfl
 rw [hF]
 refine seq1 (δ1:=[some (.sh (av c n T)),some (.ow []),none,none,none]) (by simp) (seq1 (δ1:=[some (.sh (av c n T)),some (.ow []),some (.ow [.int 0]),none,none]) (by simp [b1]) (seq1 (δ1:=[some (.sh (av c n T)),some (.ow []),some (.ow [.int 0]),some (.sh (.lst ((aw T).map eSt))),none]) ?_ (seq1 (δ1:=[some (.sh (av c n T)),some (.ow (out.map eWk)),y2,y3,y4]) ?_ rfl)))
 ·
  exact dS (jk (r1:=.sh (av c n T)) rfl hs (.inl rfl)) rfl rfl
 ·
  exact hw
def bi (T:List Tie) (k:Nat):List Int:=reach 100 ((al (aw T) [(k:Int)]).map fun s=>(s.1,s.2.1)) 0
def bA (n:Int) (T:List Tie):List Int:=match (List.range (T.length+1)).find? (fun k=>decide (((bi T k).length:Int)<n)) with
 | none=>[]
 | some k=>srt (bi T k)
theorem kY {n:Int} {T:List Tie} (W:bc n T) (k:Nat):∀ p∈bi T k,0≤p∧p<n:=by
 have R:=gb (L:=(al (aw T) [(k:Int)]).map fun s=>(s.1,s.2.1)) (a:=(0:Int)) (n:=100) (by
  have:=dq (L:=aw T) (ns:=[(k:Int)])
  have:=ce T
  have:=W.2.2.1
  simp only [List.length_map];omega)
 intro p hp
 refine R.min (fun p=>0≤p∧p<n) ⟨by omega,by have:=W.1;omega⟩ ?_ p hp
 intro s hs _
 obtain ⟨t,ht,rfl⟩:=List.mem_map.1 hs
 have:=fE W t (j8 t ht)
 exact ⟨this.2.2.1,this.2.2.2⟩
theorem kZ {n:Int} {T:List Tie} (W:bc n T) (k:Nat):mM ((al (aw T) [(k:Int)]).map fun s=>(s.1,s.2.1)) 0 (bi T k):=gb (by
 have:=dq (L:=aw T) (ns:=[(k:Int)])
 have:=ce T
 have:=W.2.2.1
 simp only [List.length_map];omega)
theorem barAt_len {n:Int} {T:List Tie} (W:bc n T) (k:Nat):(bi T k).length≤8:=by
 have:=List.Nodup.length_le_of_subset (kZ W k).nd (l₂:=pts n) (fun p hp=>eD.2 (kY W k p hp))
 rw [gr] at this
 have:=W.2.1
 omega
def k5:FS:=(ar (sset 3 (ay 2 (bT c) (aa (ac (.int 0)) (aa (ay 2 (bn c) (aa (ab 1) (aa (cf (aa (ab 2) af)) af))) af)))) (sif (aj (ad oLt (az bx (aa (ab 3) af)) (bE (isC c.Web) "points" (ab 0)))) (aT (az fg (aa (ab 3) af))) aI))
theorem k7 {f:FE} {δ:DSt} {n:Int} {T:List Tie} (h:f δ=some (.sh (av c n T))):bE (isC c.Web) "points" f δ=some (.sh (.int n)):=by
 rw [kn,h]
 simp [av,lM]
theorem bar_body {n:Int} {T:List Tie} (W:bc n T) (k:Nat) (x3:Option E) :
  k5 c [some (.sh (av c n T)),some (.sh (.lst ((aw T).map eSt))),some (.sh (.int k)),x3] =
   if ((bi T k).length:Int)<n then some (.rt (.fr ((srt (bi T k)).map .int))) else some (.nx [some (.sh (av c n T)),some (.sh (.lst ((aw T).map eSt))),some (.sh (.int k)),some (.sh (ao (bi T k)))]):=by
 have hT:=W.2.2.1
 have hl:=ce T
 have b1:(1:Nat)≤big:=by decide
 have hb:bn c [.lst ((aw T).map eSt),ao [(k:Int)]]=some (.lst ((al (aw T) [(k:Int)]).map eSt)):=fA c Enc.int Enc.int (by decide) _ _ (by omega)
 have hbl:(al (aw T) [(k:Int)]).length≤28:=by have:=dq (L:=aw T) (ns:=[(k:Int)]);omega
 have hr:bT c [.int 0,.lst ((al (aw T) [(k:Int)]).map eSt)]=some (ao (bi T k)):=gX c Enc.int (by decide) eSt (fun s=>(s.1,s.2.1)) (fun s=>⟨_,lQ s⟩) _ 0 (by omega)
 refine seq1 (δ1:=[some (.sh (av c n T)),some (.sh (.lst ((aw T).map eSt))),some (.sh (.int k)),some (.sh (ao (bi T k)))]) ?_ ?_
 ·
  refine dS (cZ (r1:=.sh _) (r2:=.sh _) rfl (cZ (r1:=.sh _) (r2:=.fr _) rfl ?_ hb (.inl ⟨rfl,rfl⟩)) hr (.inl ⟨rfl,rfl⟩)) rfl rfl
  simp [b1]
 ·
  have hlen:=barAt_len W k
  have t1:aj (ad oLt (az bx (aa (ab 3) af)) (bE (isC c.Web) "points" (ab 0))) [some (.sh (av c n T)),some (.sh (.lst ((aw T).map eSt))),some (.sh (.int k)),some (.sh (ao (bi T k)))]=some (decide (((bi T k).length:Int)<n)):=by
   rw [dP,br (a:=.sh (.int (bi T k).length)) (b:=.sh (.int n)) (x:=some (.sh (.bl (decide (((bi T k).length:Int)<n))))) (by simp [ao]) (k7 c rfl) rfl]
   rfl
  rw [dB,t1,Option.bind_some]
  by_cases h:((bi T k).length:Int)<n
  ·
   rw [if_pos (by simpa using h),if_pos h]
   refine ret1 (r:=.fr _) ?_ rfl
   rw [dY]
   simp [ao,mT _ (show (bi T k).length<64 by omega)]
  ·
   rw [if_neg (by simpa using h),if_neg h]
   rfl
theorem oB {n:Int} {T:List Tie} (W:bc n T):∀ (ks:List Nat) (x2 x3:Option E),
  match ks.find? (fun k=>decide (((bi T k).length:Int)<n)) with
  | none=>∃ y2 y3,ba (am 2) (k5 c) (ks.map fun k=>D.int (0+((k:Nat):Int))) [some (.sh (av c n T)),some (.sh (.lst ((aw T).map eSt))),x2,x3]=some (.nx [some (.sh (av c n T)),some (.sh (.lst ((aw T).map eSt))),y2,y3])
  | some k=>ba (am 2) (k5 c) (ks.map fun k=>D.int (0+((k:Nat):Int))) [some (.sh (av c n T)),some (.sh (.lst ((aw T).map eSt))),x2,x3]=some (.rt (.fr ((srt (bi T k)).map .int)))
 | [],x2,x3=>⟨x2,x3,rfl⟩
 | k::ks,x2,x3=>by
  have hb:=bar_body c W k x3
  have e0:(D.int (0+((k:Nat):Int)))=D.int (k:Int):=by rw [Int.zero_add]
  have hg:∀ r,ba (am 2) (k5 c) ((k::ks).map fun k=>D.int (0+((k:Nat):Int))) [some (.sh (av c n T)),some (.sh (.lst ((aw T).map eSt))),x2,x3]=(k5 c [some (.sh (av c n T)),some (.sh (.lst ((aw T).map eSt))),some (.sh (.int k)),x3]).bind (Res.loop fun δ=>ba (am 2) (k5 c) (ks.map fun k=>D.int (0+((k:Nat):Int))) δ)∨r:=by
   intro r
   left
   rw [List.map_cons]
   conv=>lhs;unfold ba
   rw [e0]
   rfl
  have hg:=(hg False).resolve_right id
  by_cases h:((bi T k).length:Int)<n
  ·
   rw [List.find?_cons_of_pos (by simpa using h)]
   rw [if_pos h] at hb
   simp only
   rw [hg,hb]
   rfl
  ·
   rw [List.find?_cons_of_neg (by simpa using h)]
   rw [if_neg h] at hb
   rw [hg,hb]
   simp only [Option.bind_some,cB]
   exact oB W ks _ _
theorem lT {n:Int} {T:List Tie} (W:bc n T):bX c [av c n T]=some (ao (bA n T)):=by
 have hT:=W.2.2.1
 have hs:=jn c n T (by omega)
 have hF:cY c=(ar (sset 1 (ay 1 (cF c) (aa (ab 0) af))) (ar (bB (dJ (aa (ad bI (az bx (aa ((bH c.Web "ties" 1 (aV c) (ab 0) af)) af)) (ac (.int 1))) af)) (am 2) (k5 c)) (aT (cf af)))):=rfl
 have hi:=rngE (f:=ad bI (az bx (aa ((bH c.Web "ties" 1 (aV c) (ab 0) af)) af)) (ac (.int 1))) (δ:=[some (.sh (av c n T)),some (.sh (.lst ((aw T).map eSt))),none,none]) (j:=(T.length:Int)+1) (br (a:=.sh (.int T.length)) (b:=.sh (.int 1)) (by
  rw [dY,aN,dg c (f:=ab 0) rfl]
  simp) rfl rfl) (by omega) (by omega)
 have e1:((T.length:Int)+1).toNat=T.length+1:=by omega
 rw [e1] at hi
 have hl:=oB c W (List.range (T.length+1)) none none
 have st1:sset 1 (ay 1 (cF c) (aa (ab 0) af)) [some (.sh (av c n T)),none,none,none]=some (.nx [some (.sh (av c n T)),some (.sh (.lst ((aw T).map eSt))),none,none]):=dS (jk (r1:=.sh (av c n T)) rfl hs (.inl rfl)) rfl rfl
 unfold bA
 cases ef:(List.range (T.length+1)).find? (fun k=>decide (((bi T k).length:Int)<n)) with
 | none=>
  rw [ef] at hl
  obtain ⟨y2,y3,hl⟩:=hl
  refine bD (r:=.fr []) rfl ?_ rfl
  rw [hF]
  refine seq1 st1 (seq1 (δ1:=[some (.sh (av c n T)),some (.sh (.lst ((aw T).map eSt))),y2,y3]) ?_ ?_)
  ·
   unfold bB
   rw [hi]
   exact hl
  ·
   simp
 | some k=>
  rw [ef] at hl
  refine bD (r:=.fr ((srt (bi T k)).map .int)) rfl ?_ rfl
  rw [hF]
  refine seq1 st1 ?_
  rw [fZ]
  unfold bB
  rw [hi]
  simp only [Option.bind_some]
  rw [hl]
  rfl
end Pg
end
section
set_option linter.all false
set_option Elab.async false
set_option maxRecDepth 100000
namespace Pg
open PySem PySem.Spec L2 Ew Mx
variable (c:CA)
def CNe:Prop:=c.Bar≠c.Ears∧c.Bar≠c.Turned∧c.Bar≠c.Web∧c.Ears≠c.Turned∧c.Ears≠c.Web∧c.Turned≠c.Web
theorem is_web (hc:CNe c) (n:Int) (T:List Tie):kB c (av c n T)=some true:=by
 unfold av kB
 simp [Ne.symm hc.2.2.1,Ne.symm hc.2.2.2.2.1,Ne.symm hc.2.2.2.2.2]
theorem fO (hc:CNe c) {n k:Int} {T:List Tie} (h:k≤n):d6 c [av c n T,.int k]=some .non:=by
 have h1:=is_web c hc n T
 have h2:¬n<k:=by omega
 have f1:=k7 c (f:=ab 0) (δ:=[some (.sh (av c n T)),some (.sh (.int k))]) (n:=n) (T:=T) rfl
 have t1:(cq (bh (aj (ax (kB c) (ab 0)))) (aj (ad oLt (bE (isC c.Web) "points" (ab 0)) (ab 1)))) [some (.sh (av c n T)),some (.sh (.int k))]=some false:=
  iD (iE (b9 (dL (d:=av c n T) rfl h1))) (b9 (br (a:=.sh (.int n)) (b:=.sh (.int k)) (x:=some (.sh (.bl false))) f1 rfl (by simp [h2])))
 show Ew.run 2 (cc c) _=_
 unfold Ew.run
 have e:cc c [some (.sh (av c n T)),some (.sh (.int k))]=some (.nx [some (.sh (av c n T)),some (.sh (.int k))]):=by
  unfold cc
  rw [dB,t1]
  rfl
 have e2:cc c ([av c n T,D.int k].map (fun d=>some (E.sh d))++List.replicate (2-[av c n T,D.int k].length) none)=some (.nx [some (.sh (av c n T)),some (.sh (.int k))]):=e
 rw [e2]
def cM (ps:List Int):D:=.obj c.Bar [("points",ao ps)]
def iF (ws:List (Wlk Int Int)):D:=.obj c.Ears [("ears",.lst (ws.map eWk))]
def aL (bs:List Int):D:=.obj c.Turned [("begins",ao bs)]
theorem oE (ps:List Int):dZ c [ao ps]=some [(("points" : Str),ao ps)]:=by
 refine j6 fun p=>?_
 have f1:=dU ps
 simp only [List.all_map] at f1
 simp [f8,ge,ao] at f1 ⊢
theorem k9 (ps:List Int):cU c [ao ps]=some [(("begins" : Str),ao ps)]:=by
 refine j6 fun p=>?_
 have f1:=dU ps
 simp only [List.all_map] at f1
 simp [f8,eC,ao] at f1 ⊢
theorem mY (ws:List (Wlk Int Int)) (h:ws.length≤1000):dH c [.lst (ws.map eWk)]=some [(("ears" : Str),D.lst (ws.map eWk))]:=by
 have:=jE c ws h
 refine j6 fun p=>?_
 simp [f8,fJ,this]
theorem eared_bar (hc:CNe c) {n:Int} {T:List Tie} (W:bc n T) (h2:2≤n) (h:bA n T≠[]):j7 c [av c n T]=some (cM c (bA n T)):=by
 have d1:=fO c hc (T:=T) h2
 have d2:=lT c W
 have d3:=oE c (bA n T)
 have hp:0<(bA n T).length:=List.length_pos_iff.mpr h
 refine gY rfl (seq1 (δ1:=[some (.sh (av c n T)),none]) ?_ (seq1 (δ1:=[some (.sh (av c n T)),some (.sh (ao (bA n T)))]) ?_ ?_))
 ·
  unfold sdrop
  rw [cZ (r1:=.sh (av c n T)) (r2:=.sh (.int 2)) rfl rfl d1 (.inl ⟨rfl,rfl⟩)]
  rfl
 ·
  exact dS (jk (r1:=.sh (av c n T)) rfl d2 (.inl rfl)) rfl rfl
 ·
  refine retN1 ?_
  have t1:aj (ad oGt (az bx (aa (ab 1) af)) (ac (.int 0))) [some (.sh (av c n T)),some (.sh (ao (bA n T)))]=some true:=by
   simp [ao,hp]
  rw [nif_e,t1,Option.bind_some,if_pos rfl]
  simp [j0,d3,cM]
theorem pi (hc:CNe c) {n:Int} {T:List Tie} (W:bc n T) (h2:2≤n) (h:bA n T=[]) {ws:List (Wlk Int Int)} (hw:cw 100 100 (aw T) [0] []=some ws) (hl:ws.length≤1000):j7 c [av c n T]=some (iF c ws):=by
 have d1:=fO c hc (T:=T) h2
 have d2:=lT c W
 rw [h] at d2
 have d3:=mY c ws hl
 have d4:=oA c W hw
 refine gY rfl (seq1 (δ1:=[some (.sh (av c n T)),none]) ?_ (seq1 (δ1:=[some (.sh (av c n T)),some (.sh (ao []))]) ?_ ?_))
 ·
  unfold sdrop
  rw [cZ (r1:=.sh (av c n T)) (r2:=.sh (.int 2)) rfl rfl d1 (.inl ⟨rfl,rfl⟩)]
  rfl
 ·
  exact dS (jk (r1:=.sh (av c n T)) rfl d2 (.inl rfl)) rfl rfl
 ·
  refine retN1 ?_
  have t1:aj (ad oGt (az bx (aa (ab 1) af)) (ac (.int 0))) [some (.sh (av c n T)),some (.sh (ao []))]=some false:=rfl
  rw [nif_e,t1,Option.bind_some,if_neg Bool.false_ne_true,j0,aN,jk (r1:=.sh (av c n T)) rfl d4 (.inl rfl)]
  simp [d3,iF]
def fG (b:List Int) (s:Int×Int×Int):List Int:=b.set s.2.2.toNat s.1
def eK (T:List Tie) (ws:List (Wlk Int Int)):List Int:=(ws.flatMap aD).foldl fG (List.replicate T.length 0)
theorem ixN_nat {n:Nat} {i:Int} (h0:0≤i) (h1:i<n):ixN n i=some i.toNat:=by
 unfold ixN
 rw [if_pos h0,if_pos h1]
theorem oI {e0 e1 e3:Option E}:∀ (L:aY Int Int) (b:List Int) (x4:Option E),(∀ s∈L,0≤s.2.2∧s.2.2<b.length)→
  ∃ y4,ba (am 4) (sput 2 (ad oIx (ab 4) (ac (.int 2))) (ad oIx (ab 4) (ac (.int 0)))) (L.map eSt) [e0,e1,some (.ow (b.map .int)),e3,x4]=some (.nx [e0,e1,some (.ow ((L.foldl fG b).map .int)),e3,y4])
 | [],b,x4,_=>⟨x4,rfl⟩
 | s::L,b,x4,h=>by
  obtain ⟨h0,h1⟩:=h s (by simp)
  obtain ⟨y4,ih⟩:=oI (e0:=e0) (e1:=e1) (e3:=e3) L (fG b s) (some (.sh (eSt s))) (fun t ht=>by
   have:=h t (by simp [ht])
   unfold fG
   rw [List.length_set]
   exact this)
  refine ⟨y4,?_⟩
  rw [List.map_cons]
  unfold ba
  have hg:am 4 (eSt s) [e0,e1,some (.ow (b.map .int)),e3,x4]=some [e0,e1,some (.ow (b.map .int)),e3,some (.sh (eSt s))]:=rfl
  rw [hg]
  simp only [Option.bind_some]
  have hb:sput 2 (ad oIx (ab 4) (ac (.int 2))) (ad oIx (ab 4) (ac (.int 0))) [e0,e1,some (.ow (b.map .int)),e3,some (.sh (eSt s))]=some (.nx [e0,e1,some (.ow ((fG b s).map .int)),e3,some (.sh (eSt s))]):=by
   unfold sput
   simp only [List.getElem?_cons_succ,List.getElem?_cons_zero]
   rw [st_0 (f:=ab 4) (s:=s) rfl,st_2 (f:=ab 4) (s:=s) rfl]
   simp only [Option.bind_some]
   rw [ixN_nat h0 (by simpa using h1)]
   simp [fG,List.map_set]
  rw [hb]
  simp only [Option.bind_some,cB]
  exact ih
theorem len_put (L:aY Int Int):∀ b:List Int,(L.foldl fG b).length=b.length:=by
 induction L with
 | nil=>intro b;rfl
 | cons s L ih=>intro b;rw [List.foldl_cons,ih];simp [fG]
theorem jq {e0 e1:Option E}:∀ (ws:List (Wlk Int Int)) (b:List Int) (x3 x4:Option E),(∀ w∈ws,w.1.length=w.2.length+1)→(∀ w∈ws,∀ s∈aD w,0≤s.2.2∧s.2.2<b.length)→
  ∃ y3 y4,ba (am 3) (bB (aZ (ay 1 (cG c) (aa (ab 3) af))) (am 4) (sput 2 (ad oIx (ab 4) (ac (.int 2))) (ad oIx (ab 4) (ac (.int 0))))) (ws.map eWk) [e0,e1,some (.ow (b.map .int)),x3,x4]=some (.nx [e0,e1,some (.ow (((ws.flatMap aD).foldl fG b).map .int)),y3,y4])
 | [],b,x3,x4,_,_=>⟨x3,x4,rfl⟩
 | w::ws,b,x3,x4,hw,h=>by
  have hs:cG c [eWk w]=some (.lst ((aD w).map eSt)):=om c Enc.int Enc.int w (hw w (by simp))
  obtain ⟨y4,hb⟩:=oI (e0:=e0) (e1:=e1) (e3:=some (.sh (eWk w))) (aD w) b x4 (h w (by simp))
  obtain ⟨z3,z4,ih⟩:=jq (e0:=e0) (e1:=e1) ws ((aD w).foldl fG b) (some (.sh (eWk w))) y4 (fun v hv=>hw v (by simp [hv])) (fun v hv s hs=>by rw [len_put];exact h v (by simp [hv]) s hs)
  refine ⟨z3,z4,?_⟩
  rw [List.map_cons]
  unfold ba
  have hg:am 3 (eWk w) [e0,e1,some (.ow (b.map .int)),x3,x4]=some [e0,e1,some (.ow (b.map .int)),some (.sh (eWk w)),x4]:=rfl
  rw [hg]
  simp only [Option.bind_some]
  have hf:bB (aZ (ay 1 (cG c) (aa (ab 3) af))) (am 4) (sput 2 (ad oIx (ab 4) (ac (.int 2))) (ad oIx (ab 4) (ac (.int 0)))) [e0,e1,some (.ow (b.map .int)),some (.sh (eWk w)),x4]=some (.nx [e0,e1,some (.ow (((aD w).foldl fG b).map .int)),some (.sh (eWk w)),y4]):=by
   unfold bB
   rw [fk,jk (r1:=.sh (eWk w)) rfl hs (.inl rfl)]
   exact hb
  rw [hf]
  simp only [Option.bind_some,cB]
  rw [ih,List.flatMap_cons,List.foldl_append]
theorem rep0:∀ k:Nat,(List.replicate k [D.int 0]).flatten=(List.replicate k (0:Int)).map .int
 | 0=>rfl
 | k+1=>by rw [List.replicate_succ,List.flatten_cons,rep0 k];rfl
theorem begins_eq {n:Int} {T:List Tie} (W:bc n T) {ws:List (Wlk Int Int)} (hw:∀ w∈ws,w.1.length=w.2.length+1) (h:∀ w∈ws,∀ s∈aD w,0≤s.2.2∧s.2.2<T.length) :
  eu c [av c n T,.lst (ws.map eWk)]=some (ao (eK T ws)):=by
 have hT:=W.2.2.1
 have b1:(1:Nat)≤big:=by decide
 obtain ⟨y3,y4,hl⟩:=jq c (e0:=some (.sh (av c n T))) (e1:=some (.sh (.lst (ws.map eWk)))) ws (List.replicate T.length 0) none none hw (by simpa using h)
 refine bD (r:=.fr _) rfl (seq1 (δ1:=[some (.sh (av c n T)),some (.sh (.lst (ws.map eWk))),some (.ow ((List.replicate T.length (0:Int)).map .int)),none,none]) ?_ (seq1 (δ1:=[some (.sh (av c n T)),some (.sh (.lst (ws.map eWk))),some (.ow ((eK T ws).map .int)),y3,y4]) ?_ rfl)) rfl
 ·
  refine dS (r:=.fr ((List.replicate T.length (0:Int)).map .int)) (br (a:=.fr [.int 0]) (b:=.sh (.int T.length)) (by simp [b1]) (by
   rw [dY,aN,dg c (f:=ab 0) rfl]
   simp) ?_) rfl rfl
  show (if (T.length:Int)≤1000∧-1000≤(T.length:Int)∧([D.int 0]).length*(T.length:Int).toNat≤big then some (R.fr (List.replicate (T.length:Int).toNat [D.int 0]).flatten) else none)=_
  rw [if_pos ⟨by omega,by omega,by rw [bj];simp;omega⟩]
  simp [rep0]
 ·
  simp only [bB,fk,fY,List.getElem?_cons_zero,List.getElem?_cons_succ,Option.bind_some,eB,bz]
  simp only [Bool.false_eq_true,if_false,Option.bind_some]
  exact hl
theorem lk_ears {A:Type} {a:A}:List.lookup ("ears" : Str) [("ears",a)]=some a:=rfl
theorem pj (hc:CNe c) {n:Int} {T:List Tie} (W:bc n T) (h2:2≤n) (h:bA n T≠[]):gh c [av c n T]=some (cM c (bA n T)):=by
 have d1:=eared_bar c hc W h2 h
 refine gY rfl (seq1 (δ1:=[some (.sh (av c n T)),some (.nw (cM c (bA n T)))]) (setN1 (mV (r1:=.sh (av c n T)) rfl d1 rfl) rfl) ?_)
 have t1:aj (ax (dG c) (ab 1)) (frz 1 [some (.sh (av c n T)),some (.nw (cM c (bA n T)))])=some true:=b9 (dL (d:=cM c (bA n T)) rfl (by simp [dG,cM]))
 unfold kv
 rw [t1]
 rfl
theorem oJ (hc:CNe c) {n:Int} {T:List Tie} (W:bc n T) (h2:2≤n) (h:bA n T=[]) {ws:List (Wlk Int Int)} (hw:cw 100 100 (aw T) [0] []=some ws) (hl:ws.length≤1000) (hw1:∀ w∈ws,w.1.length=w.2.length+1) (hw2:∀ w∈ws,∀ s∈aD w,0≤s.2.2∧s.2.2<T.length) :
  gh c [av c n T]=some (aL c (eK T ws)):=by
 have d1:=pi c hc W h2 h hw hl
 have d2:=begins_eq c W hw1 hw2
 have d3:=k9 c (eK T ws)
 refine gY rfl (seq1 (δ1:=[some (.sh (av c n T)),some (.nw (iF c ws))]) (setN1 (mV (r1:=.sh (av c n T)) rfl d1 rfl) rfl) ?_)
 have hn:=hc.1
 have t1:aj (ax (dG c) (ab 1)) (frz 1 [some (.sh (av c n T)),some (.nw (iF c ws))])=some false:=b9 (dL (d:=iF c ws) rfl (by simp [dG,iF,Ne.symm hn]))
 have f1:bE (isC c.Ears) "ears" (ab 1) (frz 1 [some (.sh (av c n T)),some (.nw (iF c ws))])=some (.sh (.lst (ws.map eWk))):=by
  show bE (isC c.Ears) "ears" (ab 1) [some (.sh (av c n T)),some (.sh (iF c ws))]=_
  rw [kn]
  simp [iF,lk_ears]
 unfold kv
 rw [t1,Option.bind_some,if_neg Bool.false_ne_true]
 rw [j0,aN,cZ (r1:=.sh (av c n T)) rfl f1 d2 (.inl ⟨rfl,rfl⟩)]
 simp [d3,aL]
end Pg
end
section
set_option linter.all false
set_option Elab.async false
set_option maxRecDepth 100000
namespace Pg
open PySem PySem.Spec L2 Ew Mx
structure BarOk (n:Int) (T:List Tie) (ps:List Int):Prop where
 set:isSet n ps=true
 lt:ps.Pairwise (·<·)
 pt:∀ p∈ps,0≤p∧p<n
 pos:0<ps.length
 few:(ps.length:Int)<n
 one:(T.filter (cn ps)).length≤1
theorem la {α:Type} (p:α→Bool):∀ (T:List α) (k j:Nat),(∀ i t,T[i]?=some t→p t=true→j+i=k)→(T.filter p).length≤1
 | [],k,j,_=>by simp
 | t::T,k,j,h=>by
  by_cases hp:p t=true
  ·
   have h0:j+0=k:=h 0 t rfl hp
   have:T.filter p=[]:=by
    rw [List.filter_eq_nil_iff]
    intro u hu hpu
    obtain ⟨i,hi⟩:=List.getElem?_of_mem hu
    have:=h (i+1) u (by simpa using hi) hpu
    omega
   simp [List.filter_cons,hp,this]
  ·
   rw [List.filter_cons,if_neg hp]
   exact la p T k (j+1) (fun i u hu hpu=>by have:=h (i+1) u (by simpa using hu) hpu;omega)
theorem bar_ok {n:Int} {T:List Tie} (W:bc n T) (h:bA n T≠[]):BarOk n T (bA n T):=by
 unfold bA at h ⊢
 cases ef:(List.range (T.length+1)).find? (fun k=>decide (((bi T k).length:Int)<n)) with
 | none=>rw [ef] at h;exact absurd rfl h
 | some k=>
  simp only
  have hk:=List.find?_some ef
  simp at hk
  have R:=kZ W k
  have hpt:=kY W k
  have hm:∀ p,p∈srt (bi T k)↔p∈bi T k:=fun p=>(gk _).mem_iff
  have hl:(srt (bi T k)).length=(bi T k).length:=(gk _).length_eq
  refine ⟨isSet_srt R.nd hpt,srt_lt R.nd,fun p hp=>hpt p ((hm p).1 hp),?_,by rw [hl];exact hk,?_⟩
  ·
   rw [hl];exact List.length_pos_of_mem R.ha
  ·
   refine la _ T k 0 (fun i t hi hp=>?_)
   rw [Nat.zero_add]
   apply Classical.byContradiction
   intro hne
   have hcl:∀ s∈aw T,s.2.2=(i:Int)→s.1∈bi T k→s.2.1∈bi T k:=by
    intro s hs e h1
    refine R.cl (s.1,s.2.1) (List.mem_map.2 ⟨s,?_,rfl⟩) h1
    unfold al
    rw [List.mem_filter]
    refine ⟨hs,?_⟩
    simp
    omega
   have a1:=hcl (t.1,t.2,i) (aW.2 ⟨i,t,hi,rfl,.inl ⟨rfl,rfl⟩⟩) rfl
   have a2:=hcl (t.2,t.1,i) (aW.2 ⟨i,t,hi,rfl,.inr ⟨rfl,rfl⟩⟩) rfl
   simp only at a1 a2
   unfold cn at hp
   simp only [hm] at hp
   by_cases q1:t.1∈bi T k <;> by_cases q2:t.2∈bi T k <;> simp [q1,q2] at hp a1 a2
theorem full_of {n:Int} {T:List Tie} (W:bc n T) (h:bA n T=[]) (k:Nat) (hk:k≤T.length):n.toNat≤(bi T k).length:=by
 unfold bA at h
 cases ef:(List.range (T.length+1)).find? (fun k=>decide (((bi T k).length:Int)<n)) with
 | none=>
  rw [List.find?_eq_none] at ef
  have:=ef k (by simp;omega)
  simp at this
  omega
 | some j=>
  rw [ef] at h
  have R:=kZ W j
  have:=(gk (bi T j)).mem_iff.2 R.ha
  simp only at h
  rw [h] at this
  cases this
theorem mZ {n:Int} {T:List Tie} (W:bc n T) (h:bA n T=[]) (k:Nat) (hk:k≤T.length):∀ Q:Int→Prop,Q 0→(∀ s∈aw T,s.2.2≠(k:Int)→Q s.1→Q s.2.1)→∀ p,0≤p∧p<n→Q p:=by
 intro Q q0 q1 p hp
 have hl:((al (aw T) [(k:Int)]).map fun s=>(s.1,s.2.1)).length+2≤100:=by
  have:=dq (L:=aw T) (ns:=[(k:Int)])
  have:=ce T
  have:=W.2.2.1
  simp only [List.length_map];omega
 refine reach_all (L:=(al (aw T) [(k:Int)]).map fun s=>(s.1,s.2.1)) (a:=(0:Int)) (n:=100) hl (pts:=pts n) (gt n) (fun p hp=>eD.2 (kY W k p (show p∈reach 100 _ 0 from hp))) ?_ Q q0 ?_ p (eD.2 hp)
 ·
  rw [gr];exact full_of W h k hk
 ·
  intro s hs hq
  obtain ⟨t,ht,rfl⟩:=List.mem_map.1 hs
  unfold al at ht
  rw [List.mem_filter] at ht
  refine q1 t ht.1 ?_ hq
  simpa using ht.2
theorem lb {n:Int} {T:List Tie} (W:bc n T) (h:bA n T=[]):iw (aw T) 0 (fun p=>0≤p∧p<n):=by
 refine ⟨jm T,iC T,pf W,fun s hs=>⟨(fE W s hs).1,(fE W s hs).2.1⟩,fun Q q0 q1 p hp=>?_,fun s hs Q hQ h1=>?_⟩
 ·
  exact mZ W h T.length (Nat.le_refl _) Q q0 (fun s hs _=>q1 s hs) p hp
 ·
  obtain ⟨i,t,hi,e,_⟩:=aW.1 hs
  have hil:i<T.length:=(List.getElem?_eq_some_iff.mp hi).1
  have pt:=fE W s hs
  apply Classical.byContradiction
  intro hn
  by_cases q0:Q 0
  ·
   exact hn (mZ W h i (by omega) Q q0 (fun t ht ne=>hQ t ht (by rw [e];exact ne)) s.1 ⟨pt.1,pt.2.1⟩)
  ·
   exact mZ W h i (by omega) (fun p=>¬Q p) q0 (fun t ht ne hq hq2=>hq (by
    have:=hQ (turned t) (jm T t ht) (by rw [e];exact ne)
    exact this hq2)) s.2.1 ⟨pt.2.2.1,pt.2.2.2⟩ h1
theorem lU {n:Int} {T:List Tie} (W:bc n T) (h:bA n T=[]) (h2:2≤n):aw T≠[]:=by
 intro e
 have:=(lb W h).conn (fun p=>p=0) rfl (by rw [e];simp) 1 (by omega)
 omega
structure EarsOk (n:Int) (T:List Tie) (ws:List (Wlk Int Int)):Prop where
 go:cw 100 100 (aw T) [0] []=some ws
 fr:aC (aw T) [0] [] ws
 all:∀ s∈aw T,s.2.2∈ws.flatMap (·.2)
 pts:∀ p,0≤p∧p<n→p∈(0:Int)::ws.flatMap (·.1)
theorem ears_of {n:Int} {T:List Tie} (W:bc n T) (h:bA n T=[]) (h2:2≤n):∃ ws,EarsOk n T ws:=by
 have hT:=W.2.2.1
 have hl:=ce T
 obtain ⟨e,es,g1,g2,g3⟩:=all_ears (lb W h) (n:=100) (f:=100) (by omega) (by omega) (lU W h h2)
 obtain ⟨a1,a2⟩:=ears_all (lb W h) g2 g3
 exact ⟨e::es,g1,g2,a1,a2⟩
theorem aC.len1 {L:aY Int Int}:∀ {es:List (Wlk Int Int)} {met:List Int} {used:List Int},aC L met used es→∀ w∈es,w.1.length=w.2.length+1
 | [],_,_,_=>by simp
 | e::es,met,used,⟨h1,h2⟩=>by
  intro w hw
  simp at hw
  rcases hw with rfl | hw
  ·
   exact h1.len
  ·
   exact aC.len1 h2 w hw
theorem aC.pos1 {L:aY Int Int}:∀ {es:List (Wlk Int Int)} {met:List Int} {used:List Int},aC L met used es→∀ w∈es,1≤w.2.length
 | [],_,_,_=>by simp
 | e::es,met,used,⟨h1,h2⟩=>by
  intro w hw
  simp at hw
  rcases hw with rfl | hw
  ·
   exact h1.pos
  ·
   exact aC.pos1 h2 w hw
theorem lV {T:List Tie} {s:Int×Int×Int} (hs:s∈aw T):0≤s.2.2∧s.2.2<T.length:=by
 obtain ⟨i,t,hi,e,_⟩:=aW.1 hs
 have hil:i<T.length:=(List.getElem?_eq_some_iff.mp hi).1
 omega
theorem ears_few {L:aY Int Int} {es:List (Wlk Int Int)} (h:aC L [0] [] es) (hL:L.length≤100):es.length≤100:=by
 have h1:=aC.namesOf h
 have h2:(es.flatMap aD).Nodup:=iu (by rw [h1];exact (aC.names h).1)
 have h3:=List.Nodup.length_le_of_subset h2 (l₂:=L) (aC.steps h)
 have h4:es.length≤(es.flatMap (·.2)).length:=by
  have hp:=aC.pos1 h
  clear h h1 h2 h3
  induction es with
  | nil=>simp
  | cons e es ih=>
   have h5:=ih (fun w hw=>hp w (by simp [hw]))
   have h6:=hp e (by simp)
   rw [List.flatMap_cons,List.length_append,List.length_cons]
   omega
 rw [←h1,List.length_map] at h4
 omega
theorem put_get:∀ (L:aY Int Int) (b:List Int),(L.map kz).Nodup→(∀ s∈L,0≤s.2.2∧s.2.2<b.length)→∀ s∈L,(L.foldl fG b)[s.2.2.toNat]?=some s.1
 | [],b,_,_=>by simp
 | t::L,b,nd,h=>by
  intro s hs
  rw [List.map_cons,List.nodup_cons] at nd
  rw [List.foldl_cons]
  have hb:∀ u∈L,0≤u.2.2∧u.2.2<(fG b t).length:=fun u hu=>by
   have:=h u (by simp [hu])
   unfold fG
   rw [List.length_set]
   exact this
  by_cases hsl:s∈L
  ·
   exact put_get L (fG b t) nd.2 hb s hsl
  ·
   simp at hs
   rcases hs with rfl | hs
   ·
    have keep:∀ (M:aY Int Int) (d:List Int),(∀ u∈M,0≤u.2.2∧u.2.2≠s.2.2)→(M.foldl fG d)[s.2.2.toNat]?=d[s.2.2.toNat]?:=by
     intro M
     induction M with
     | nil=>intro d _;rfl
     | cons u M ih=>
      intro d hd
      rw [List.foldl_cons,ih _ (fun v hv=>hd v (by simp [hv]))]
      unfold fG
      rw [List.getElem?_set_ne]
      have:=hd u (by simp)
      have:=(h s (by simp)).1
      omega
    rw [keep L (fG b s) (fun u hu=>⟨(hb u hu).1,fun e=>nd.1 (List.mem_map.2 ⟨u,hu,e⟩)⟩)]
    unfold fG
    rw [List.getElem?_set_self]
    have:=h s (by simp)
    omega
   ·
    exact absurd hs hsl
structure TurnOk (n:Int) (T:List Tie) (bs:List Int):Prop where
 len:bs.length=T.length
 inn:∀ (i:Nat) (t:Tie) (b:Int),T[i]?=some t→bs[i]?=some b→b=t.1∨b=t.2
 str:∀ Q:Int→Prop,(∀ (i:Nat) (t:Tie) (b:Int),T[i]?=some t→bs[i]?=some b→Q b→Q (t.1+t.2-b))→∀ p q,0≤p∧p<n→0≤q∧q<n→Q p→Q q
theorem turn_ok {n:Int} {T:List Tie} (W:bc n T) {ws:List (Wlk Int Int)} (A:EarsOk n T ws):TurnOk n T (eK T ws):=by
 have hst:=aC.steps A.fr
 have hnd:=(aC.names A.fr).1
 have hnm:=aC.namesOf A.fr
 have hlen:(eK T ws).length=T.length:=by unfold eK;rw [len_put];simp
 have hget:∀ s∈ws.flatMap aD,(eK T ws)[s.2.2.toNat]?=some s.1:=put_get _ _ (by rw [hnm];exact hnd) (fun s hs=>by simpa using lV (hst s hs))
 have hall:∀ (i:Nat) (t:Tie) (b:Int),T[i]?=some t→(eK T ws)[i]?=some b→∃ s∈ws.flatMap aD,s.2.2=(i:Int)∧s.1=b∧((s.1=t.1∧s.2.1=t.2)∨(s.1=t.2∧s.2.1=t.1)):=by
  intro i t b hi hb
  have:=A.all (t.1,t.2,i) (aW.2 ⟨i,t,hi,rfl,.inl ⟨rfl,rfl⟩⟩)
  rw [←hnm] at this
  obtain ⟨s,hs,e⟩:=List.mem_map.1 this
  have e:s.2.2=(i:Int):=e
  refine ⟨s,hs,e,?_,?_⟩
  ·
   have:=hget s hs
   rw [e] at this
   simp at this
   rw [hb] at this
   cases this
   rfl
  ·
   obtain ⟨j,u,hj,e2,h3⟩:=aW.1 (hst s hs)
   have:i=j:=by omega
   subst this
   rw [hi] at hj
   cases hj
   exact h3
 refine ⟨hlen,?_,?_⟩
 ·
  intro i t b hi hb
  obtain ⟨s,_,_,e1,e2⟩:=hall i t b hi hb
  omega
 ·
  intro Q hQ p q hp hq h0
  have hO:=jf (r:=(0:Int)) (O:=fun a b=>∃ s∈ws.flatMap aD,s.1=a∧s.2.1=b) A.fr (fun s hs=>⟨s,hs,rfl,rfl⟩) (fun p hp=>by simp at hp;subst hp;exact ⟨.rfl',.rfl'⟩)
  have hcl:∀ a b,(∃ s∈ws.flatMap aD,s.1=a∧s.2.1=b)→Q a→Q b:=by
   rintro a b ⟨s,hs,rfl,rfl⟩ ha
   obtain ⟨i,t,hi,e,h3⟩:=aW.1 (hst s hs)
   have hb:=hget s hs
   rw [e] at hb
   simp at hb
   have:=hQ i t s.1 hi hb ha
   have e2:t.1+t.2-s.1=s.2.1:=by omega
   rw [e2] at this
   exact this
  have g1:=(hO p (by simpa using A.pts p hp)).2 Q hcl h0
  exact (hO q (by simpa using A.pts q hq)).1 Q hcl g1
end Pg
end
section
set_option linter.all false
set_option Elab.async false
set_option maxRecDepth 100000
namespace Pg
open PySem PySem.Spec L2 Ew Mx
variable (c:CA)
theorem oIn_t2 (p a b:Int):oIn (.int p) (.tup [.int a,.int b])=some (.sh (.bl (decide (p∈[a,b])))):=by
 have h:Ew.okD (.tup [.int a,.int b])=true:=ET.okD (show max 1 1+1≤16 by decide) (a,b)
 show (if okD (.int p)=true∧okD (.tup [.int a,.int b])=true then some (R.sh (.bl (([D.int a,D.int b]).any fun y=>eqP y (.int p)))) else none)=_
 rw [if_pos ⟨di p,h⟩]
 have:=Enc.any Enc.int p [a,b]
 simp only [Enc.int,List.map_cons,List.map_nil] at this
 rw [this]
theorem fldB {f:FE} {δ:DSt} {ps:List Int} (h:f δ=some (.sh (cM c ps))):bE (isC c.Bar) "points" f δ=some (.sh (ao ps)):=by
 rw [kn,h]
 simp [cM,lkp]
theorem lkb {A:Type} {a:A}:List.lookup ("begins" : Str) [("begins",a)]=some a:=rfl
theorem fldT {f:FE} {δ:DSt} {ps:List Int} (h:f δ=some (.sh (aL c ps))):bE (isC c.Turned) "begins" f δ=some (.sh (ao ps)):=by
 rw [kn,h]
 simp [aL,lkb]
theorem len1 {f:FE} {δ:DSt} {ps:List Int} (h:f δ=some (.sh (ao ps))):az bx (aa f af) δ=some (.sh (.int ps.length)):=by
 rw [dY,aN,h]
 simp [ao]
theorem lenT {f:FE} {δ:DSt} {T:List Tie} (h:f δ=some (.sh (.lst (T.map aq)))):az bx (aa f af) δ=some (.sh (.int T.length)):=by
 rw [dY,aN,h]
 simp
theorem oK {f1 f2 f3:FE} {δ:DSt} {a b d:Int} (h1:f1 δ=some (.sh (.int a))) (h2:f2 δ=some (.sh (.int b))) (h3:f3 δ=some (.sh (.int d))):aj (cO oLt oLt f1 f2 f3) δ=some (decide (a<b)&&decide (b<d)):=by
 by_cases h:a<b
 ·
  simp [h1,h2,h3,h]
 ·
  simp [h1,h2,h3,h]
theorem iG (n:Int) (T:List Tie) (ps:List Int) (h:0≤n) (h2:n≤100) (hT:T.length≤1000) :
  bJ c [cM c ps,av c n T]=some (.bl (isSet n ps&&(decide ((0:Int)<ps.length)&&decide ((ps.length:Int)<n))&&decide (((T.filter (cn ps)).length:Int)≤1))):=by
 have a2:=jD c n T ps h h2
 have a3:=kQ c n T ps hT
 have f1:∀ δ:DSt,ab 0 δ=some (.sh (cM c ps))→bE (isC c.Bar) "points" (ab 0) δ=some (.sh (ao ps)):=fun δ h=>fldB c h
 generalize hδ:[some (E.sh (cM c ps)),some (E.sh (av c n T))]=δ
 have fδ:=f1 δ (by rw [←hδ];rfl)
 have wδ:ab 1 δ=some (.sh (av c n T)):=by rw [←hδ];rfl
 have t1:aj (ay 2 (cS c) (aa (ab 1) (aa (bE (isC c.Bar) "points" (ab 0)) af))) δ=some (isSet n ps):=b9 (cZ wδ fδ a2 (.inl ⟨rfl,rfl⟩))
 have t2:aj (cO oLt oLt (ac (.int 0)) (az bx (aa (bE (isC c.Bar) "points" (ab 0)) af)) (bE (isC c.Web) "points" (ab 1))) δ=some (decide ((0:Int)<ps.length)&&decide ((ps.length:Int)<n)):=oK rfl (len1 fδ) (k7 c wδ)
 have t3:ad oLe (az bx (aa (ay 2 (ck c) (aa (ab 1) (aa (bE (isC c.Bar) "points" (ab 0)) af))) af)) (ac (.int 1)) δ=some (.sh (.bl (decide (((T.filter (cn ps)).length:Int)≤1)))):=by
  refine br (a:=.sh (.int (kP T ps).length)) (b:=.sh (.int 1)) (len1 (cZ wδ fδ a3 (.inl ⟨rfl,rfl⟩))) rfl ?_
  rw [pd]
  rfl
 generalize decide (((T.filter (cn ps)).length:Int)≤1)=b3 at t3
 generalize (decide ((0:Int)<ps.length)&&decide ((ps.length:Int)<n))=b2 at t2
 generalize isSet n ps=b1 at t1
 have hF:gf c δ=some (.rt (.sh (.bl (b1&&b2&&b3)))):=by
  unfold gf
  rw [fZ,dB,dtOr_e,jW,t1]
  cases b1 with
  | false=>rfl
  | true=>
   simp only [Option.map_some,Option.bind_some,Bool.not_true,jW,t2,Bool.false_eq_true,if_false]
   cases b2 with
   | false=>rfl
   | true=>
    simp only [Option.map_some,Option.bind_some,Bool.not_true,Bool.false_eq_true,if_false]
    show aT _ δ=_
    rw [mC,t3]
    rfl
 exact bD (r:=.sh (.bl (b1&&b2&&b3))) hδ hF rfl
theorem bar_true {n:Int} {T:List Tie} (W:bc n T) {ps:List Int} (B:BarOk n T ps):bJ c [cM c ps,av c n T]=some (.bl true):=by
 have h1:=W.1
 have h2:=W.2.1
 have h3:=W.2.2.1
 have:=iG c n T ps (by omega) (by omega) (by omega)
 rw [this]
 have e1:=B.pos
 have e2:=B.few
 have e3:=B.one
 simp [B.set]
 omega
theorem bar_false {n:Int} {T:List Tie} (W:bc n T):bJ c [cM c [],av c n T]=some (.bl false):=by
 have h1:=W.1
 have h2:=W.2.1
 have h3:=W.2.2.1
 have:=iG c n T [] (by omega) (by omega) (by omega)
 rw [this]
 simp
def oth (t:Tie) (b:Int):Int:=if b=t.1 then t.2 else t.1
theorem m5 (t:Tie) (b:Int):ca c [aq t,.int b]=some (.int (oth t b)):=by
 unfold oth
 by_cases h:b=t.1 <;> simp [ca,ji,cQ,cX,h]
def gone (T:List Tie) (bs:List Int):List Tie:=(bs.zip T).map fun p=>(p.1,oth p.2 p.1)
theorem m6 (S:List Tie) (h:S.length≤1000):gc c [.lst (S.map aq)]=some (.lst ((S.map fun s=>(s.2,s.1)).map aq)):=by
 have b2:(2:Nat)≤big:=by decide
 have c1:=cC (fi:=aZ (ab 0)) (g:=am 0) (t:=eH) (fe:=cg (aa (ad oIx (ab 0) (ac (.int 1))) (aa (ad oIx (ab 0) (ac (.int 0))) af))) (m:=1) (ix:=[]) (δ:=[some (.sh (.lst (S.map aq)))]) rfl (by simpa using h) (cA _ _ _ _ aq (fun _=>true) (fun s=>aq (s.2,s.1)) S (fun s _=>by
  refine ⟨_,rfl,rfl,fun _=>⟨.sh (aq (s.2,s.1)),?_,rfl,rfl⟩⟩
  simp [dIn,cQ,cX,b2]))
 have e1:(S.filter fun _=>true)=S:=by simp
 rw [e1] at c1
 refine bD (r:=.fr _) rfl ((ret1 c1 rfl).trans ?_) rfl
 rw [List.map_map]
 rfl
theorem zip_it {f1 f2:FE} {δ:DSt} {bs:List Int} {T:List Tie} (h1:f1 δ=some (.sh (ao bs))) (h2:f2 δ=some (.sh (.lst (T.map aq)))):gM (aa f1 (aa f2 af)) δ=some ((bs.zip T).map fun p=>D.tup [.int p.1,aq p.2]):=by
 unfold gM
 rw [aN,h1,Option.bind_some,aN,h2]
 simp only [Option.bind_some,eI,eB,bz,Bool.false_eq_true,or_self,if_false]
 rw [List.zip,List.map_zipWith]
 show some (List.zipWith _ (bs.map D.int) (T.map aq))=_
 rw [List.zipWith_map]
theorem zip_it2 {f1 f2:FE} {δ:DSt} {bs:List Int} {T:List Tie} (h1:f1 δ=some (.sh (ao bs))) (h2:f2 δ=some (.sh (.lst (T.map aq)))):gM (aa f2 (aa f1 af)) δ=some ((T.zip bs).map fun p=>D.tup [aq p.1,.int p.2]):=by
 unfold gM
 rw [aN,h2,Option.bind_some,aN,h1]
 simp only [Option.bind_some,eI,eB,bz,Bool.false_eq_true,or_self,if_false]
 rw [List.zip,List.map_zipWith]
 show some (List.zipWith _ (T.map aq) (bs.map D.int))=_
 rw [List.zipWith_map]
theorem gone_len (T:List Tie) (bs:List Int):(gone T bs).length≤T.length:=by unfold gone;simp;omega
theorem shows_len {n:Int} {T:List Tie} {bs:List Int} (h:bs.length≠T.length):bp c [aL c bs,av c n T]=some (.bl false):=by
 refine bD (r:=.sh (.bl false)) rfl (seq1 (δ1:=[some (.sh (aL c bs)),some (.sh (av c n T)),some (.sh (.lst (T.map aq))),none]) (dS (dg c (f:=ab 1) rfl) rfl rfl) ?_) rfl
 rw [fZ,dB,b9 (b:=true) (br (a:=.sh (.int bs.length)) (b:=.sh (.int T.length)) (x:=some (.sh (.bl true))) (len1 (fldT c (f:=ab 0) rfl)) (lenT (f:=ab 2) rfl) (by
  have:¬((bs.length:Int)=T.length):=by omega
  simp [this]))]
 rfl
theorem oM {n:Int} {T:List Tie} (W:bc n T) {bs:List Int} (B:TurnOk n T bs):bp c [aL c bs,av c n T]=some (.bl true):=by
 have hT:=W.2.2.1
 have hn1:=W.1
 have b2:(2:Nat)≤big:=by decide
 have hzl:(bs.zip T).length≤1000:=by rw [List.length_zip];omega
 have hmem:∀ p∈bs.zip T,∃ i:Nat,T[i]?=some p.2∧bs[i]?=some p.1:=by
  intro p hp
  obtain ⟨i,hi⟩:=List.getElem?_of_mem hp
  rw [List.getElem?_zip_eq_some] at hi
  exact ⟨i,hi.2,hi.1⟩
 have c1:=cC (fi:=gM (aa (bE (isC c.Turned) "begins" (ab 0)) (aa (ab 2) af))) (g:=eG 2 (aX (am 0) (aX (am 1) eM))) (t:=eH) (fe:=ad oIn (ab 0) (ab 1)) (m:=2) (ix:=[]) (δ:=[some (.sh (aL c bs)),some (.sh (av c n T)),some (.sh (.lst (T.map aq))),none]) (zip_it (fldT c rfl) rfl) (by rw [List.length_map];exact hzl) (cA _ _ _ _ (fun p=>D.tup [.int p.1,aq p.2]) (fun _=>true) (fun _=>D.bl true) (bs.zip T) (fun p hp=>by
  refine ⟨_,rfl,rfl,fun _=>⟨.sh (.bl true),?_,rfl,rfl⟩⟩
  refine br (a:=.sh (.int p.1)) (b:=.sh (aq p.2)) rfl rfl ?_
  obtain ⟨i,h1,h2⟩:=hmem p hp
  have:=B.inn i p.2 p.1 h1 h2
  rw [bz,bz,oIn_t2]
  have:p.1∈[p.2.1,p.2.2]:=by simp;exact this
  simp only [this,decide_true]))
 have e1:((bs.zip T).filter fun _=>true)=bs.zip T:=by simp
 rw [e1] at c1
 have c2:=cC (fi:=gM (aa (bE (isC c.Turned) "begins" (ab 0)) (aa (ab 2) af))) (g:=eG 2 (aX (am 0) (aX (am 1) eM))) (t:=eH) (fe:=cg (aa (ab 0) (aa (ay 2 (ca c) (aa (ab 1) (aa (ab 0) af))) af))) (m:=2) (ix:=[]) (δ:=[some (.sh (aL c bs)),some (.sh (av c n T)),some (.sh (.lst (T.map aq))),none]) (zip_it (fldT c rfl) rfl) (by rw [List.length_map];exact hzl) (cA _ _ _ _ (fun p=>D.tup [.int p.1,aq p.2]) (fun _=>true) (fun p=>aq (p.1,oth p.2 p.1)) (bs.zip T) (fun p hp=>by
  refine ⟨_,rfl,rfl,fun _=>⟨.sh (aq (p.1,oth p.2 p.1)),?_,rfl,rfl⟩⟩
  have h3:ay 2 (ca c) (aa (ab 1) (aa (ab 0) af)) [some (E.sh (.int p.1)),some (E.sh (aq p.2))]=some (.sh (.int (oth p.2 p.1))):=cZ (r1:=.sh (aq p.2)) (r2:=.sh (.int p.1)) rfl rfl (m5 c p.2 p.1) (.inl ⟨rfl,rfl⟩)
  show cg (aa (ab 0) (aa (ay 2 (ca c) (aa (ab 1) (aa (ab 0) af))) af)) [some (E.sh (.int p.1)),some (E.sh (aq p.2))]=_
  rw [dtup_e,aN,aN,h3]
  simp [b2]))
 rw [e1] at c2
 have e2:(bs.zip T).map (fun p=>aq (p.1,oth p.2 p.1))=(gone T bs).map aq:=by unfold gone;rw [List.map_map];rfl
 rw [e2] at c2
 have hgl:=gone_len T bs
 have hoth:∀ (t:Tie) (b:Int),b=t.1∨b=t.2→oth t b=t.1+t.2-b:=by
  intro t b hb
  unfold oth
  split <;> omega
 have hin:∀ s∈gone T bs,0≤s.1∧s.1<n∧0≤s.2∧s.2<n:=by
  intro s hs
  obtain ⟨p,hp,rfl⟩:=List.mem_map.1 hs
  obtain ⟨i,h1,h2⟩:=hmem p hp
  have h3:=B.inn i p.2 p.1 h1 h2
  have h4:=W.2.2.2 p.2 (List.mem_of_getElem? h1)
  simp only
  rw [hoth _ _ h3]
  omega
 have hfull:∀ f:List Int,f.Nodup→(∀ p∈f,0≤p∧p<n)→(∀ p,0≤p∧p<n→p∈f)→(f.length:Int)=n:=by
  intro f nd h1 h2
  have l1:=List.Nodup.length_le_of_subset nd (l₂:=pts n) (fun p hp=>eD.2 (h1 p hp))
  have l2:=List.Nodup.length_le_of_subset (gt n) (l₂:=f) (fun p hp=>h2 p (eD.1 hp))
  rw [gr] at l1 l2
  omega
 have R1:=gb (L:=gone T bs) (a:=(0:Int)) (n:=100) (by omega)
 have len1':((reach 100 (gone T bs) 0).length:Int)=n:=by
  refine hfull _ R1.nd (fun p hp=>R1.min (fun p=>0≤p∧p<n) ⟨by omega,by omega⟩ (fun s hs _=>⟨(hin s hs).2.2.1,(hin s hs).2.2.2⟩) p hp) (fun q hq=>?_)
  refine B.str (fun p=>p∈reach 100 (gone T bs) 0) (fun i t b h1 h2 hb=>?_) 0 q ⟨by omega,by omega⟩ hq R1.ha
  have:(b,oth t b)∈gone T bs:=by
   unfold gone
   exact List.mem_map.2 ⟨(b,t),List.mem_of_getElem? (i:=i) (by rw [List.getElem?_zip_eq_some];exact ⟨h2,h1⟩),rfl⟩
  have:=R1.cl _ this hb
  rw [hoth t b (B.inn i t b h1 h2)] at this
  exact this
 have R2:=gb (L:=(gone T bs).map fun s=>(s.2,s.1)) (a:=(0:Int)) (n:=100) (by rw [List.length_map];omega)
 have len2':((reach 100 ((gone T bs).map fun s=>(s.2,s.1)) 0).length:Int)=n:=by
  refine hfull _ R2.nd (fun p hp=>R2.min (fun p=>0≤p∧p<n) ⟨by omega,by omega⟩ (fun s hs _=>by
   obtain ⟨t,ht,rfl⟩:=List.mem_map.1 hs
   exact ⟨(hin t ht).1,(hin t ht).2.1⟩) p hp) (fun q hq=>?_)
  apply Classical.byContradiction
  intro hnq
  refine B.str (fun p=>p∉reach 100 ((gone T bs).map fun s=>(s.2,s.1)) 0) (fun i t b h1 h2 hb hb2=>hb ?_) q 0 hq ⟨by omega,by omega⟩ hnq R2.ha
  have:(oth t b,b)∈(gone T bs).map fun s=>(s.2,s.1):=by
   unfold gone
   rw [List.map_map]
   exact List.mem_map.2 ⟨(b,t),List.mem_of_getElem? (i:=i) (by rw [List.getElem?_zip_eq_some];exact ⟨h2,h1⟩),rfl⟩
  rw [←hoth t b (B.inn i t b h1 h2)] at hb2
  exact R2.cl _ this hb2
 have r1:bT c [.int 0,.lst ((gone T bs).map aq)]=some (ao (reach 100 (gone T bs) 0)):=by
  have:=gX c Enc.int (by decide) aq (fun s=>s) (fun s=>⟨[],rfl⟩) (gone T bs) 0 (by omega)
  rw [List.map_id'] at this
  exact this
 have r2:bT c [.int 0,.lst (((gone T bs).map fun s=>(s.2,s.1)).map aq)]=some (ao (reach 100 ((gone T bs).map fun s=>(s.2,s.1)) 0)):=by
  have:=gX c Enc.int (by decide) aq (fun s=>s) (fun s=>⟨[],rfl⟩) ((gone T bs).map fun s=>(s.2,s.1)) 0 (by rw [List.length_map];omega)
  rw [List.map_id'] at this
  exact this
 have r3:=m6 c (gone T bs) (by omega)
 have a1:=all_true (f:=aa (bZ (gM (aa (bE (isC c.Turned) "begins" (ab 0)) (aa (ab 2) af))) (eG 2 (aX (am 0) (aX (am 1) eM))) eH (ad oIn (ab 0) (ab 1)) 2 []) af) (δ:=[some (.sh (aL c bs)),some (.sh (av c n T)),some (.sh (.lst (T.map aq))),none]) (xs:=bs.zip T) (by rw [aN,c1];rfl)
 refine bD (r:=.sh (.bl true)) rfl (seq1 (δ1:=[some (.sh (aL c bs)),some (.sh (av c n T)),some (.sh (.lst (T.map aq))),none]) (dS (dg c (f:=ab 1) rfl) rfl rfl) ?_) rfl
 refine seq1 (δ1:=[some (.sh (aL c bs)),some (.sh (av c n T)),some (.sh (.lst (T.map aq))),none]) ?_ (seq1 (δ1:=[some (.sh (aL c bs)),some (.sh (av c n T)),some (.sh (.lst (T.map aq))),none]) ?_ (seq1 (δ1:=[some (.sh (aL c bs)),some (.sh (av c n T)),some (.sh (.lst (T.map aq))),some (.ow ((gone T bs).map aq))]) (dS c2 rfl rfl) ?_))
 ·
  rw [dB,b9 (b:=false) (br (a:=.sh (.int bs.length)) (b:=.sh (.int T.length)) (x:=some (.sh (.bl false))) (len1 (fldT c (f:=ab 0) rfl)) (lenT (f:=ab 2) rfl) (by simp [B.len]))]
  rfl
 ·
  rw [dB,iE (b9 a1)]
  rfl
 ·
  rw [iR]
  show aT _ [some (.sh (aL c bs)),some (.sh (av c n T)),some (.sh (.lst (T.map aq))),some (.sh (.lst ((gone T bs).map aq)))]=_
  refine ret1 (and_tt ?_ ?_) rfl
  ·
   refine br (a:=.sh (.int n)) (b:=.sh (.int n)) ?_ (k7 c rfl) (by simp)
   rw [len1 (ps:=reach 100 (gone T bs) 0) (cZ (r1:=.sh (.int 0)) (r2:=.sh (.lst ((gone T bs).map aq))) rfl rfl r1 (.inl ⟨rfl,rfl⟩)),len1']
  ·
   refine br (a:=.sh (.int n)) (b:=.sh (.int n)) ?_ (k7 c rfl) (by simp)
   rw [len1 (ps:=reach 100 ((gone T bs).map fun s=>(s.2,s.1)) 0) (cZ (r1:=.sh (.int 0)) (r2:=.sh (.lst (((gone T bs).map fun s=>(s.2,s.1)).map aq))) rfl (jk (r1:=.sh (.lst ((gone T bs).map aq))) rfl r3 (.inl rfl)) r2 (.inl ⟨rfl,rfl⟩)),len2']
end Pg
end
section
set_option linter.all false
set_option Elab.async false
set_option maxRecDepth 100000
namespace Pg
open PySem PySem.Spec L2 Ew Mx
def bm (met:List Int) (p:Tie×Int):List Int:=if p.2∈met∧p.1.1+p.1.2-p.2∉met then met++[p.1.1+p.1.2-p.2] else met
def cy (Z:List (Tie×Int)) (met:List Int):List Int:=Z.foldl bm met
def bY (Z:List (Tie×Int)):Nat→List Int→List Int
 | 0,met=>met
 | k+1,met=>bY Z k (cy Z met)
theorem lc (met:List Int) (p:Tie×Int):met.length≤(bm met p).length:=by unfold bm;split <;> simp
theorem lW (Z:List (Tie×Int)):∀ met:List Int,met.length≤(cy Z met).length:=by
 induction Z with
 | nil=>intro met;exact Nat.le_refl _
 | cons p Z ih=>intro met;exact Nat.le_trans (lc met p) (ih _)
theorem lscan_inv (Z:List (Tie×Int)) {Q:Int→Prop} (hQ:∀ p∈Z,Q (p.1.1+p.1.2-p.2)):∀ met:List Int,met.Nodup→(∀ x∈met,Q x)→(cy Z met).Nodup∧(∀ x∈cy Z met,Q x)∧∀ x∈met,x∈cy Z met:=by
 induction Z with
 | nil=>intro met h1 h2;exact ⟨h1,h2,fun x h=>h⟩
 | cons p Z ih=>
  intro met h1 h2
  have hs:(bm met p).Nodup∧(∀ x∈bm met p,Q x)∧∀ x∈met,x∈bm met p:=by
   unfold bm
   split
   ·
    rename_i h
    refine ⟨?_,?_,fun x hx=>by simp [hx]⟩
    ·
     rw [List.nodup_append]
     refine ⟨h1,by simp,?_⟩
     intro a ha b hb e
     simp at hb
     subst hb;subst e
     exact h.2 ha
    ·
     intro x hx
     simp at hx
     rcases hx with hx | rfl
     ·
      exact h2 x hx
     ·
      exact hQ p (by simp)
   ·
    exact ⟨h1,h2,fun x hx=>hx⟩
  obtain ⟨i1,i2,i3⟩:=ih (fun q hq=>hQ q (by simp [hq])) (bm met p) hs.1 hs.2.1
  exact ⟨i1,i2,fun x hx=>i3 x (hs.2.2 x hx)⟩
def i8 (Z:List (Tie×Int)) (met:List Int):Prop:=∀ p∈Z,p.2∈met→p.1.1+p.1.2-p.2∈met
theorem pk (Z:List (Tie×Int)):∀ met:List Int,(cy Z met).length=met.length→i8 Z met∧cy Z met=met:=by
 induction Z with
 | nil=>intro met _;exact ⟨fun p hp=>by simp at hp,rfl⟩
 | cons p Z ih=>
  intro met h
  have e:cy (p::Z) met=cy Z (bm met p):=rfl
  rw [e] at h ⊢
  have h1:=lc met p
  have h2:=lW Z (bm met p)
  have h3:bm met p=met∧(p.2∈met→p.1.1+p.1.2-p.2∈met):=by
   unfold bm at h1 h2 h ⊢
   split at h <;> rename_i hc
   ·
    rw [if_pos hc] at h1 h2
    simp at h2 h
    omega
   ·
    rw [if_neg hc]
    refine ⟨rfl,fun hm=>?_⟩
    apply Classical.byContradiction
    intro hn
    exact hc ⟨hm,hn⟩
  rw [h3.1] at h ⊢
  obtain ⟨i1,i2⟩:=ih met h
  refine ⟨fun q hq=>?_,i2⟩
  simp at hq
  rcases hq with rfl | hq
  ·
   exact h3.2
  ·
   exact i1 q hq
theorem iH {Z:List (Tie×Int)}:∀ {Y:List (Tie×Int)} {met:List Int},(∀ p∈Y,p∈Z)→i8 Z met→cy Y met=met
 | [],met,_,_=>rfl
 | p::Y,met,hY,h=>by
  have e:bm met p=met:=by
   unfold bm
   rw [if_neg]
   rintro ⟨a,b⟩
   exact b (h p (hY p (by simp)) a)
  show cy Y (bm met p)=met
  rw [e]
  exact iH (fun q hq=>hY q (by simp [hq])) h
theorem gH {Z:List (Tie×Int)}:∀ (k:Nat) {met:List Int},i8 Z met→bY Z k met=met
 | 0,_,_=>rfl
 | k+1,met,h=>by
  show bY Z k (cy Z met)=met
  rw [iH (fun p hp=>hp) h]
  exact gH k h
theorem lX {Z:List (Tie×Int)} {Q:Int→Prop} (hQ:∀ p∈Z,Q (p.1.1+p.1.2-p.2)):∀ (k:Nat) (met:List Int),met.Nodup→(∀ x∈met,Q x)→
  (bY Z k met).Nodup∧(∀ x∈bY Z k met,Q x)∧(∀ x∈met,x∈bY Z k met)∧(i8 Z (bY Z k met)∨met.length+k≤(bY Z k met).length)
 | 0,met,h1,h2=>⟨h1,h2,fun x h=>h,.inr (Nat.le_refl _)⟩
 | k+1,met,h1,h2=>by
  obtain ⟨s1,s2,s3⟩:=lscan_inv Z hQ met h1 h2
  obtain ⟨i1,i2,i3,i4⟩:=lX hQ k (cy Z met) s1 s2
  refine ⟨i1,i2,fun x hx=>i3 x (s3 x hx),?_⟩
  by_cases hl:(cy Z met).length=met.length
  ·
   obtain ⟨c1,c2⟩:=pk Z met hl
   left
   show i8 Z (bY Z k (cy Z met))
   rw [c2,gH k c1]
   exact c1
  ·
   have:=lW Z met
   rcases i4 with i4 | i4
   ·
    exact .inl i4
   ·
    right
    show met.length+(k+1)≤(bY Z k (cy Z met)).length
    omega
theorem oN {n:Int} {T:List Tie} (W:bc n T) {bs:List Int} (B:TurnOk n T bs) {p:Int} (hp:0≤p∧p<n):((bY (T.zip bs) n.toNat [p]).length:Int)=n:=by
 have hmem:∀ q∈T.zip bs,∃ i:Nat,T[i]?=some q.1∧bs[i]?=some q.2:=by
  intro q hq
  obtain ⟨i,hi⟩:=List.getElem?_of_mem hq
  rw [List.getElem?_zip_eq_some] at hi
  exact ⟨i,hi.1,hi.2⟩
 obtain ⟨i1,i2,i3,i4⟩:=lX (Z:=T.zip bs) (Q:=fun x=>0≤x∧x<n) (fun q hq=>by
  obtain ⟨i,h1,h2⟩:=hmem q hq
  have h3:=B.inn i q.1 q.2 h1 h2
  have h4:=W.2.2.2 q.1 (List.mem_of_getElem? h1)
  omega) n.toNat [p] (by simp) (by simpa using hp)
 have l1:=List.Nodup.length_le_of_subset i1 (l₂:=pts n) (fun p hp=>eD.2 (i2 p hp))
 rw [gr] at l1
 have hcl:i8 (T.zip bs) (bY (T.zip bs) n.toNat [p]):=by
  rcases i4 with i4 | i4
  ·
   exact i4
  ·
   simp at i4
   omega
 have l2:=List.Nodup.length_le_of_subset (gt n) (l₂:=bY (T.zip bs) n.toNat [p]) (fun q hq=>by
  refine B.str (fun x=>x∈bY (T.zip bs) n.toNat [p]) (fun i t b h1 h2 hb=>?_) p q hp (eD.1 hq) (i3 p (by simp))
  exact hcl (t,b) (List.mem_of_getElem? (i:=i) (by rw [List.getElem?_zip_eq_some];exact ⟨h1,h2⟩)) hb)
 rw [gr] at l2
 omega
variable (c:CA)
def m7:FS:=(ar (sset 7 (ad oSub (ad bI (ad oIx (ab 5) (ac (.int 0))) (ad oIx (ab 5) (ac (.int 1)))) (ab 6))) (sif ((dW (aj (ad oIn (ab 6) (ab 3))) (aj (ad oNotIn (ab 7) (ab 3))))) (sfrz 7 (cD 3 (ab 7))) aI))
theorem lr_in {e0 e1 e2 e4:Option E}:∀ (Z:List (Tie×Int)) (met:List Int) (x5 x6 x7:Option E),met.length+Z.length≤1000→
  ∃ y5 y6 y7,ba (eG 2 (aX (am 5) (aX (am 6) eM))) m7 (Z.map fun p=>D.tup [aq p.1,.int p.2]) [e0,e1,e2,some (.ow (met.map .int)),e4,x5,x6,x7]=some (.nx [e0,e1,e2,some (.ow ((cy Z met).map .int)),e4,y5,y6,y7])
 | [],met,x5,x6,x7,_=>⟨x5,x6,x7,rfl⟩
 | p::Z,met,x5,x6,x7,hl=>by
  simp only [List.length_cons] at hl
  have hl1:(bm met p).length≤met.length+1:=by unfold bm;split <;> simp
  obtain ⟨y5,y6,y7,ih⟩:=lr_in (e0:=e0) (e1:=e1) (e2:=e2) (e4:=e4) Z (bm met p) (some (.sh (aq p.1))) (some (.sh (.int p.2))) (some (.sh (.int (p.1.1+p.1.2-p.2)))) (by omega)
  refine ⟨y5,y6,y7,?_⟩
  rw [List.map_cons]
  unfold ba
  have hg:eG 2 (aX (am 5) (aX (am 6) eM)) (D.tup [aq p.1,.int p.2]) [e0,e1,e2,some (.ow (met.map .int)),e4,x5,x6,x7]=some [e0,e1,e2,some (.ow (met.map .int)),e4,some (.sh (aq p.1)),some (.sh (.int p.2)),x7]:=rfl
  rw [hg]
  simp only [Option.bind_some]
  have hb:m7 [e0,e1,e2,some (.ow (met.map .int)),e4,some (.sh (aq p.1)),some (.sh (.int p.2)),x7]=some (.nx [e0,e1,e2,some (.ow ((bm met p).map .int)),e4,some (.sh (aq p.1)),some (.sh (.int p.2)),some (.sh (.int (p.1.1+p.1.2-p.2)))]):=by
   refine seq1 (δ1:=[e0,e1,e2,some (.ow (met.map .int)),e4,some (.sh (aq p.1)),some (.sh (.int p.2)),some (.sh (.int (p.1.1+p.1.2-p.2)))]) ?_ ?_
   ·
    refine dS (r:=.sh (.int (p.1.1+p.1.2-p.2))) (br (a:=.sh (.int (p.1.1+p.1.2))) (b:=.sh (.int p.2)) (br (a:=.sh (.int p.1.1)) (b:=.sh (.int p.1.2)) (br (a:=.sh (aq p.1)) (b:=.sh (.int 0)) rfl rfl (by simp [cQ])) (br (a:=.sh (aq p.1)) (b:=.sh (.int 1)) rfl rfl (by simp [cX])) rfl) rfl rfl) rfl rfl
   ·
    have b1:met.length≤big:=by rw [bj];omega
    unfold bm
    generalize p.1.1+p.1.2-p.2=q
    generalize p.2=r
    by_cases h1:r∈met
    ·
     by_cases h2:q∈met
     ·
      simp [h1,h2]
     ·
      simp [h1,h2,cD,b1,frz]
    ·
     simp [h1]
  rw [hb]
  simp only [Option.bind_some,cB]
  exact ih
theorem lr_out {e2:Option E} {n:Int} {T:List Tie} {bs:List Int} (hT:T.length≤14):∀ (ks:List Nat) (met:List Int) (x4 x5 x6 x7:Option E),met.length+20*ks.length≤900→
  ∃ y4 y5 y6 y7,ba (am 4) (bB (gM (aa (ad oIx (ab 0) (ac (.int 1))) (aa (ab 1) af))) (eG 2 (aX (am 5) (aX (am 6) eM))) m7) (ks.map fun k=>D.int (0+((k:Nat):Int))) [some (.sh (aS n T)),some (.sh (ao bs)),e2,some (.ow (met.map .int)),x4,x5,x6,x7]=some (.nx [some (.sh (aS n T)),some (.sh (ao bs)),e2,some (.ow ((bY (T.zip bs) ks.length met).map .int)),y4,y5,y6,y7])
 | [],met,x4,x5,x6,x7,_=>⟨x4,x5,x6,x7,rfl⟩
 | k::ks,met,x4,x5,x6,x7,hl=>by
  simp only [List.length_cons] at hl
  have hz:(T.zip bs).length≤14:=by rw [List.length_zip];omega
  have hl1:(cy (T.zip bs) met).length≤met.length+(T.zip bs).length:=by
   generalize T.zip bs=Z
   clear hl hz
   induction Z generalizing met with
   | nil=>exact Nat.le_refl _
   | cons p Z ih=>
    have h1:=ih (bm met p)
    have h2:(bm met p).length≤met.length+1:=by unfold bm;split <;> simp
    show (cy Z (bm met p)).length≤_
    simp only [List.length_cons]
    omega
  obtain ⟨z5,z6,z7,hin⟩:=lr_in (e0:=some (.sh (aS n T))) (e1:=some (.sh (ao bs))) (e2:=e2) (e4:=some (.sh (.int (0+(k:Int))))) (T.zip bs) met x5 x6 x7 (by omega)
  obtain ⟨y4,y5,y6,y7,ih⟩:=lr_out (e2:=e2) hT ks (cy (T.zip bs) met) (some (.sh (.int (0+(k:Int))))) z5 z6 z7 (by omega)
  refine ⟨y4,y5,y6,y7,?_⟩
  rw [List.map_cons]
  unfold ba
  have hg:am 4 (.int (0+(k:Int))) [some (.sh (aS n T)),some (.sh (ao bs)),e2,some (.ow (met.map .int)),x4,x5,x6,x7]=some [some (.sh (aS n T)),some (.sh (ao bs)),e2,some (.ow (met.map .int)),some (.sh (.int (0+(k:Int)))),x5,x6,x7]:=rfl
  rw [hg]
  simp only [Option.bind_some]
  have hf:bB (gM (aa (ad oIx (ab 0) (ac (.int 1))) (aa (ab 1) af))) (eG 2 (aX (am 5) (aX (am 6) eM))) m7 [some (.sh (aS n T)),some (.sh (ao bs)),e2,some (.ow (met.map .int)),some (.sh (.int (0+(k:Int)))),x5,x6,x7]=some (.nx [some (.sh (aS n T)),some (.sh (ao bs)),e2,some (.ow ((cy (T.zip bs) met).map .int)),some (.sh (.int (0+(k:Int)))),z5,z6,z7]):=by
   unfold bB
   rw [zip_it2 (bs:=bs) (T:=T) (f1:=ab 1) rfl (i7 rfl)]
   exact hin
  rw [hf]
  simp only [Option.bind_some,cB]
  exact ih
theorem ld {n:Int} {T:List Tie} (W:bc n T) (bs:List Int) (p:Int):cx c [aS n T,ao bs,.int p]=some (.int ((bY (T.zip bs) n.toNat [p]).length:Int)):=by
 have hT:=W.2.2.1
 have h1:=W.1
 have h2:=W.2.1
 have b1:(1:Nat)≤big:=by decide
 obtain ⟨y4,y5,y6,y7,h⟩:=lr_out (e2:=some (.sh (.int p))) (n:=n) (T:=T) (bs:=bs) hT (List.range n.toNat) [p] none none none none (by simp;omega)
 have hi:=rngE (f:=ad oIx (ab 0) (ac (.int 0))) (δ:=[some (.sh (aS n T)),some (.sh (ao bs)),some (.sh (.int p)),some (.ow [.int p]),none,none,none,none]) (j:=n) (iZ rfl) (by omega) (by omega)
 rw [List.length_range] at h
 refine bD (r:=.sh _) rfl (seq1 (δ1:=[some (.sh (aS n T)),some (.sh (ao bs)),some (.sh (.int p)),some (.ow [.int p]),none,none,none,none]) (by simp [b1]) (seq1 (δ1:=[some (.sh (aS n T)),some (.sh (ao bs)),some (.sh (.int p)),some (.ow ((bY (T.zip bs) n.toNat [p]).map .int)),y4,y5,y6,y7]) ?_ ?_)) rfl
 ·
  unfold bB
  rw [hi]
  exact h
 ·
  refine ret1 (r:=.sh (.int ((bY (T.zip bs) n.toNat [p]).length:Int))) ?_ rfl
  simp
theorem lf {e0 e1:Option E}:∀ (Z:List (Tie×Int)) (x2 x3:Option E),(∀ p∈Z,p.2=p.1.1∨p.2=p.1.2)→
  ∃ y2 y3,ba (eG 2 (aX (am 2) (aX (am 3) eM))) (sif ((cq (aj (ax is_bool (ab 3))) (cq (bh (aj (ax dX (ab 3)))) (aj (ad oNotIn (ab 3) (ab 2)))))) (aT (ac (.bl false))) aI) (Z.map fun p=>D.tup [aq p.1,.int p.2]) [e0,e1,x2,x3]=some (.nx [e0,e1,y2,y3])
 | [],x2,x3,_=>⟨x2,x3,rfl⟩
 | p::Z,x2,x3,h=>by
  obtain ⟨y2,y3,ih⟩:=lf (e0:=e0) (e1:=e1) Z (some (.sh (aq p.1))) (some (.sh (.int p.2))) (fun q hq=>h q (by simp [hq]))
  refine ⟨y2,y3,?_⟩
  rw [List.map_cons]
  unfold ba
  have hg:eG 2 (aX (am 2) (aX (am 3) eM)) (D.tup [aq p.1,.int p.2]) [e0,e1,x2,x3]=some [e0,e1,some (.sh (aq p.1)),some (.sh (.int p.2))]:=rfl
  rw [hg]
  simp only [Option.bind_some]
  have hp:=h p (by simp)
  have hm:p.2∈[p.1.1,p.1.2]:=by simp;exact hp
  have hb:(sif ((cq (aj (ax is_bool (ab 3))) (cq (bh (aj (ax dX (ab 3)))) (aj (ad oNotIn (ab 3) (ab 2)))))) (aT (ac (.bl false))) aI) [e0,e1,some (.sh (aq p.1)),some (.sh (.int p.2))]=some (.nx [e0,e1,some (.sh (aq p.1)),some (.sh (.int p.2))]):=by
   rw [dB,iD (b9 (dL (d:=.int p.2) (b:=false) rfl rfl)) (iD (iE (b9 (dL (d:=.int p.2) (b:=true) rfl rfl))) (b9 (br (a:=.sh (.int p.2)) (b:=.sh (aq p.1)) (x:=some (.sh (.bl false))) rfl rfl (by rw [bz,bz,lR];simp [hm]))))]
   rfl
  rw [hb]
  simp only [Option.bind_some,cB]
  exact ih
theorem pq {n:Int} {T:List Tie} (W:bc n T) {bs:List Int} (B:TurnOk n T bs):bO c [aS n T,ao bs]=some (.bl true):=by
 have hT:=W.2.2.1
 have h1:=W.1
 have h2:=W.2.1
 have hz:∀ p∈T.zip bs,p.2=p.1.1∨p.2=p.1.2:=by
  intro q hq
  obtain ⟨i,hi⟩:=List.getElem?_of_mem hq
  rw [List.getElem?_zip_eq_some] at hi
  exact B.inn i q.1 q.2 hi.1 hi.2
 obtain ⟨y2,y3,hl⟩:=lf (e0:=some (.sh (aS n T))) (e1:=some (.sh (ao bs))) (T.zip bs) none none hz
 have hi:=rngE (f:=ad oIx (ab 0) (ac (.int 0))) (δ:=[some (.sh (aS n T)),some (.sh (ao bs)),y2,y3]) (j:=n) (iZ rfl) (by omega) (by omega)
 have c1:=cC (fi:=dJ (aa (ad oIx (ab 0) (ac (.int 0))) af)) (g:=am 0) (t:=eH) (fe:=ad oEq (ay 3 (cx c) (aa (ab 1) (aa (ab 2) (aa (ab 0) af)))) (ad oIx (ab 1) (ac (.int 0)))) (m:=1) (ix:=[0,1]) (δ:=[some (.sh (aS n T)),some (.sh (ao bs)),y2,y3]) hi (by simp;omega) (cA _ _ _ _ (fun (k:Nat)=>D.int (0+(k:Int))) (fun _=>true) (fun _=>D.bl true) (List.range n.toNat) (fun k hk=>by
  refine ⟨_,rfl,rfl,fun _=>⟨.sh (.bl true),?_,rfl,rfl⟩⟩
  have hk2:k<n.toNat:=by simpa using hk
  have r:=ld c W bs (0+(k:Int))
  rw [oN W B ⟨by omega,by omega⟩] at r
  exact br (a:=.sh (.int n)) (b:=.sh (.int n)) (call3 (r1:=.sh (aS n T)) (r2:=.sh (ao bs)) (r3:=.sh (.int (0+(k:Int)))) rfl rfl rfl r (.inl ⟨rfl,rfl,rfl⟩)) (iZ rfl) (by simp)))
 have e1:((List.range n.toNat).filter fun _=>true)=List.range n.toNat:=by simp
 rw [e1] at c1
 have a1:=all_true (f:=aa (bZ (dJ (aa (ad oIx (ab 0) (ac (.int 0))) af)) (am 0) eH (ad oEq (ay 3 (cx c) (aa (ab 1) (aa (ab 2) (aa (ab 0) af)))) (ad oIx (ab 1) (ac (.int 0)))) 1 [0,1]) af) (δ:=[some (.sh (aS n T)),some (.sh (ao bs)),y2,y3]) (xs:=List.range n.toNat) (by rw [aN,c1];rfl)
 refine bD (r:=.sh (.bl true)) rfl (seq1 (δ1:=[some (.sh (aS n T)),some (.sh (ao bs)),none,none]) ?_ (seq1 (δ1:=[some (.sh (aS n T)),some (.sh (ao bs)),y2,y3]) ?_ (ret1 a1 rfl))) rfl
 ·
  rw [dB,iD (iE (b9 (dL (d:=ao bs) (b:=true) rfl rfl))) (b9 (br (a:=.sh (.int bs.length)) (b:=.sh (.int T.length)) (x:=some (.sh (.bl false))) (len1 (f:=ab 1) rfl) (lenT (i7 (f:=ab 0) rfl)) (by simp [B.len])))]
  rfl
 ·
  unfold bB
  rw [zip_it2 (bs:=bs) (T:=T) (f1:=ab 1) rfl (i7 rfl)]
  exact hl
end Pg
end
section
set_option linter.all false
set_option Elab.async false
set_option maxRecDepth 100000
namespace Pg
open PySem PySem.Spec L2 Ew Mx
variable (c:CA)
theorem ansB (hc:CNe c) (ps:List Int):de c (cM c ps)=some true∧cj c (cM c ps)=some false∧dG c (cM c ps)=some true∧fu c (cM c ps)=some false:=by
 simp [de,cj,dG,fu,cM]
theorem ansT (hc:CNe c) (ps:List Int):de c (aL c ps)=some true∧cj c (aL c ps)=some true∧dG c (aL c ps)=some false∧fu c (aL c ps)=some false:=by
 have h1:=Ne.symm hc.2.1
 have h2:=Ne.symm hc.2.2.2.1
 simp [de,cj,dG,fu,aL,h1,h2]
theorem meth1 {C:Addr} {name:Str} {m:List D→Option D} {fo f1:FE} {δ:DSt} {fs:List (Str×D)} {r1:R} {d:D} (h:fo δ=some (.sh (.obj C fs))) (hl:fs.lookup name=none) (h1:f1 δ=some r1)
  (hm:m [.obj C fs,r1.view]=some d) (hb:r1.isBw=false∨d.flat=true):bH C name 2 m fo (aa f1 af) δ=some (.sh d):=by
 simp only [dmeth_e,h,Option.bind_some,bz,hl,aN,eI,h1,and_self,if_true,jX,List.map_cons,List.map_nil,hm]
 rw [if_pos]
 exact ⟨rfl,hb.imp (fun h=>by simp [h]) id⟩
theorem meth_no {C C':Addr} {name:Str} {k:Nat} {m:List D→Option D} {fo:FE} {fa:DSt→Option (List R)} {δ:DSt} {fs:List (Str×D)} (h:fo δ=some (.sh (.obj C' fs))) (hn:C'≠C):bH C name k m fo fa δ=none:=by
 simp only [dmeth_e,h,Option.bind_some,bz]
 simp [hn]
theorem pw {f1 f2 f3:FE} {δ:DSt} {a b d:Int} (h1:f1 δ=some (.sh (.int a))) (h2:f2 δ=some (.sh (.int b))) (h3:f3 δ=some (.sh (.int d))) (h4:a<b) (h5:b<d):aj (cO oLt oLt f1 f2 f3) δ=some true:=by
 rw [oK h1 h2 h3];simp [h4,h5]
def shw:FE:=(dalt (bH c.Turned "shows" 2 (bp c) (ab 4) (aa (ab 2) af)) (bH c.Bar "shows" 2 (bJ c) (ab 4) (aa (ab 2) af)))
theorem lkb2 {A:Type} {a:A}:List.lookup ("shows" : Str) [(("begins" : Str),a)]=none:=rfl
theorem shw_T {e0 e1 e3:Option E} {n:Int} {T:List Tie} {bs:List Int} {b:Bool} (h:bp c [aL c bs,av c n T]=some (.bl b)):shw c [e0,e1,some (.sh (av c n T)),e3,some (.sh (aL c bs))]=some (.sh (.bl b)):=by
 unfold shw dalt
 rw [meth1 (fs:=[("begins",ao bs)]) (r1:=.sh (av c n T)) rfl lkb2 rfl h (.inl rfl)]
theorem shw_B (hc:CNe c) {e0 e1 e3:Option E} {n:Int} {T:List Tie} {ps:List Int} {b:Bool} (h:bJ c [cM c ps,av c n T]=some (.bl b)):shw c [e0,e1,some (.sh (av c n T)),e3,some (.sh (cM c ps))]=some (.sh (.bl b)):=by
 unfold shw dalt
 rw [meth_no (C':=c.Bar) (fs:=[("points",ao ps)]) rfl hc.2.1,meth1 (fs:=[("points",ao ps)]) (r1:=.sh (av c n T)) rfl lkp2 rfl h (.inl rfl)]
noncomputable def L1:FS:=gC 4 (cP 1 (gh c) (aa (ab 2) af))
def L2':FS:=(eR 4 ((cq (bh (aj (ax (de c) (ab 4)))) (aj (ad oEq (ax (cj c) (ab 4)) (ax (dG c) (ab 4)))))) (aT (ac (.bl false))) aI)
def L3:FS:=(eR 4 ((cq (aj (ax (fu c) (ab 4))) (aj (ad gO (shw c) (ac (.bl true)))))) (aT (ac (.bl false))) aI)
def L4:FS:=(eR 4 (aj (ax (cj c) (ab 4))) (ar (eR 4 (bh (aj (ay 2 (bO c) (aa (ab 1) (aa (bE (isC c.Turned) "begins" (ab 4)) af))))) (aT (ac (.bl false))) aI) (smut 4 ([]++[.f c.Turned "begins"]) lI)) (ar (eR 4 ((cq (bh (aj (ay 2 (dR c) (aa (bE (isC c.Bar) "points" (ab 4)) (aa (ad oIx (ab 1) (ac (.int 0))) af))))) (bh (aj (cO oLt oLt (ac (.int 0)) (az bx (aa (bE (isC c.Bar) "points" (ab 4)) af)) (ad oIx (ab 1) (ac (.int 0)))))))) (aT (ac (.bl false))) aI) (ar (eR 4 (aj (ad oGt (ay 2 (dr c) (aa (ad oIx (ab 1) (ac (.int 1))) (aa (bE (isC c.Bar) "points" (ab 4)) af))) (ac (.int 1)))) (aT (ac (.bl false))) aI) (smut 4 ([]++[.f c.Bar "points"]) io))))
def L5:FS:=(eR 4 (aj (ad gO (shw c) (ac (.bl false)))) (aT (ac (.bl false))) aI)
noncomputable def iI:FS:=ar (L1 c) (ar (L2' c) (ar (L3 c) (ar (L4 c) (L5 c))))
theorem body_bar (hc:CNe c) {e0 e3 x4:Option E} {n:Int} {T:List Tie} (W:bc n T) (h2:2≤n) (h:bA n T≠[]) :
  iI c [e0,some (.sh (aS n T)),some (.sh (av c n T)),e3,x4]=some (.nx [e0,some (.sh (aS n T)),some (.sh (av c n T)),e3,some (.nw (cM c []))]):=by
 have hT:=W.2.2.1
 have B:=bar_ok W h
 have d1:=pj c hc W h2 h
 have d2:=bar_true c W B
 have d3:=bar_false c W
 have d4:=ox c B.pt B.lt
 have d5:=ph c T (bA n T) (by omega)
 generalize bA n T=ps at *
 obtain ⟨a1,a2,a3,a4⟩:=ansB c hc ps
 refine seq1 (δ1:=[e0,some (.sh (aS n T)),some (.sh (av c n T)),e3,some (.nw (cM c ps))]) (setN1 (mV (r1:=.sh (av c n T)) rfl d1 rfl) rfl) ?_
 refine seq1 (gG (iD (iE (b9 (dL (d:=cM c ps) rfl a1))) (b9 (br (a:=.sh (.bl false)) (b:=.sh (.bl true)) (x:=some (.sh (.bl false))) (dL (d:=cM c ps) rfl a2) (dL (d:=cM c ps) rfl a3) rfl))) rfl) ?_
 refine seq1 (gG (iD (b9 (dL (d:=cM c ps) rfl a4)) (mU (a:=true) (shw_B c hc d2))) rfl) ?_
 refine seq1 (δ1:=[e0,some (.sh (aS n T)),some (.sh (av c n T)),e3,some (.nw (cM c []))]) (gG (b9 (dL (d:=cM c ps) rfl a2)) ?_) ?_
 ·
  have p1:=B.pos
  have p2:=B.few
  have p3:=B.one
  refine seq1 (gG (iD (iE (b9 (cZ (r1:=.sh (ao ps)) (r2:=.sh (.int n)) (fldB c rfl) (iZ rfl) d4 (.inl ⟨rfl,rfl⟩)))) (iE (pw (a:=0) (b:=ps.length) (d:=n) rfl (len1 (fldB c rfl)) (iZ rfl) (by omega) p2))) rfl) ?_
  refine seq1 (gG (b9 (br (b:=.sh (.int 1)) (x:=some (.sh (.bl false))) (cZ (r1:=.sh (.lst (T.map aq))) (r2:=.sh (ao ps)) (i7 rfl) (fldB c rfl) d5 (.inl ⟨rfl,rfl⟩)) rfl (by simp;omega))) rfl) ?_
  simp [smut,sub,Ew.putAt,setF,io,cM,lkp,ao]
 ·
  exact gG (mU (a:=false) (shw_B c hc d3)) rfl
theorem oO (hc:CNe c) {e0 e3 x4:Option E} {n:Int} {T:List Tie} (W:bc n T) (h2:2≤n) (h:bA n T=[]) :
  ∃ y4,iI c [e0,some (.sh (aS n T)),some (.sh (av c n T)),e3,x4]=some (.nx [e0,some (.sh (aS n T)),some (.sh (av c n T)),e3,y4]):=by
 have hT:=W.2.2.1
 have hl:=ce T
 obtain ⟨ws,A⟩:=ears_of W h h2
 have hst:=aC.steps A.fr
 have B:=turn_ok W A
 have d1:=oJ c hc W h2 h A.go (by have:=ears_few A.fr (by omega);omega) (aC.len1 A.fr) (fun w hw s hs=>lV (hst s (List.mem_flatMap.2 ⟨w,hw,hs⟩)))
 have hne:T≠[]:=by
  intro e
  apply lU W h h2
  rw [e]
  rfl
 have hp:0<T.length:=List.length_pos_iff.mpr hne
 generalize eK T ws=bs at *
 have hbl:=B.len
 have d2:=oM c W B
 have d3:=shows_len c (n:=n) (T:=T) (bs:=bs.dropLast) (by rw [List.length_dropLast];omega)
 have d4:=pq c W B
 obtain ⟨a1,a2,a3,a4⟩:=ansT c hc bs
 refine ⟨some (.nw (aL c bs.dropLast)),?_⟩
 refine seq1 (δ1:=[e0,some (.sh (aS n T)),some (.sh (av c n T)),e3,some (.nw (aL c bs))]) (setN1 (mV (r1:=.sh (av c n T)) rfl d1 rfl) rfl) ?_
 refine seq1 (gG (iD (iE (b9 (dL (d:=aL c bs) rfl a1))) (b9 (br (a:=.sh (.bl true)) (b:=.sh (.bl false)) (x:=some (.sh (.bl false))) (dL (d:=aL c bs) rfl a2) (dL (d:=aL c bs) rfl a3) rfl))) rfl) ?_
 refine seq1 (gG (iD (b9 (dL (d:=aL c bs) rfl a4)) (mU (a:=true) (shw_T c d2))) rfl) ?_
 refine seq1 (δ1:=[e0,some (.sh (aS n T)),some (.sh (av c n T)),e3,some (.nw (aL c bs.dropLast))]) (ifB_t (b9 (dL (d:=aL c bs) rfl a2)) ?_) ?_
 ·
  refine seq1 (gG (iE (b9 (cZ (r1:=.sh (aS n T)) (r2:=.sh (ao bs)) rfl (fldT c rfl) d4 (.inl ⟨rfl,rfl⟩)))) rfl) ?_
  have hb:bs.map D.int≠[]:=by
   intro e
   have:=congrArg List.length e
   simp at this
   rw [this] at hbl
   simp at hbl
   omega
  simp [smut,sub,Ew.putAt,setF,lI,aL,lkb,ao]
  have hb2:bs≠[]:=by intro e;rw [e] at hb;exact hb rfl
  simp [hb2,List.map_dropLast]
 ·
  exact gG (mU (a:=false) (shw_T c d3)) rfl
theorem law_turn (hc:CNe c) {e0:Option E} {n:Int} {T:List Tie} (W:bc n T) (h2:2≤n) (e3 x4:Option E) :
  ∃ y4,iI c [e0,some (.sh (aS n T)),some (.sh (av c n T)),e3,x4]=some (.nx [e0,some (.sh (aS n T)),some (.sh (av c n T)),e3,y4]):=by
 by_cases h:bA n T=[]
 ·
  exact oO c hc W h2 h
 ·
  exact ⟨_,body_bar c hc W h2 h⟩
theorem oP (hc:CNe c) {e0:Option E} {n:Int} {T:List Tie} (W:bc n T) (hn2:2≤n):∀ (ks:List Nat) (x3 x4:Option E),
  ∃ y3 y4,ba (am 3) (iI c) (ks.map fun k=>D.int (0+((k:Nat):Int))) [e0,some (.sh (aS n T)),some (.sh (av c n T)),x3,x4]=some (.nx [e0,some (.sh (aS n T)),some (.sh (av c n T)),y3,y4])
 | [],x3,x4=>⟨_,_,rfl⟩
 | k::ks,x3,x4=>by
  obtain ⟨y4,hb⟩:=law_turn c hc (e0:=e0) W hn2 (some (.sh (.int (0+(k:Int))))) x4
  obtain ⟨z3,z4,ih⟩:=oP hc (e0:=e0) W hn2 ks (some (.sh (.int (0+(k:Int))))) y4
  refine ⟨z3,z4,?_⟩
  rw [List.map_cons]
  unfold ba
  have hg:am 3 (.int (0+(k:Int))) [e0,some (.sh (aS n T)),some (.sh (av c n T)),x3,x4]=some [e0,some (.sh (aS n T)),some (.sh (av c n T)),some (.sh (.int (0+(k:Int)))),x4]:=rfl
  rw [hg]
  simp only [Option.bind_some]
  rw [hb]
  simp only [Option.bind_some,cB]
  exact ih
theorem law_true (hc:CNe c) (K:PySem.W.Frag):∀ ns:List Int,ns.length≤63→m_law c K ns=some (.bl true):=by
 intro ns _
 obtain ⟨v0,hv0⟩:=kT c K ns (k:=0) (by omega)
 obtain ⟨v1,hv1⟩:=kT c K ns (k:=1) (by omega)
 obtain ⟨n,T,ht,W,hn2⟩:=told_eq c (v0+31*v1) 2 (by omega) (by omega)
 have hF:F_law c K=ar (sset 1 (ay 2 (fz c) (aa (ad bI (fq K 0 (a9 c K) (ac (.int 0))) (ad bQ (ac (.int 31)) (fq K 0 (a9 c K) (ac (.int 1))))) (aa (ac (.int 2)) af)))) (ar (sset 2 (dnw (f9 c.Web 2 (cb c) (aa (ad oIx (ab 1) (ac (.int 0))) (aa (ad oIx (ab 1) (ac (.int 1))) af))))) (ar (bB (dJ (aa (ac (.int 2)) af)) (am 3) (iI c)) (aT (ad oEq ((bH c.Web "ties" 1 (aV c) (ab 2) af)) (ad oIx (ab 1) (ac (.int 1))))))):=rfl
 obtain ⟨y3,y4,hl⟩:=oP c hc (e0:=some (.scr K ns)) W hn2 (List.range 2) none none
 have hr:F_law c K [some (.scr K ns),none,none,none,none]=some (.rt (.sh (.bl true))):=by
  rw [hF]
  refine seq1 (δ1:=[some (.scr K ns),some (.sh (aS n T)),none,none,none]) ?_ (seq1 (δ1:=[some (.scr K ns),some (.sh (aS n T)),some (.sh (av c n T)),none,none]) ?_ (seq1 (δ1:=[some (.scr K ns),some (.sh (aS n T)),some (.sh (av c n T)),y3,y4]) ?_ ?_))
  ·
   refine dS (cZ (r1:=.sh (.int (v0+31*v1))) (r2:=.sh (.int 2)) (br (a:=.sh (.int v0)) (b:=.sh (.int (31*v1))) (kU c rfl hv0) (br (a:=.sh (.int 31)) (b:=.sh (.int v1)) rfl (kU c rfl hv1) (mulL (by omega) (by omega))) rfl) rfl ht (.inl ⟨rfl,rfl⟩)) rfl rfl
  ·
   refine dS (r:=.sh (av c n T)) ?_ rfl rfl
   rw [dnw_e]
   erw [make_web c W (r1:=.sh (.int n)) (r2:=.sh (.lst (T.map aq))) (by rw [aN,iZ (f:=ab 1) rfl,Option.bind_some,aN,i7 (f:=ab 1) rfl];rfl) rfl rfl rfl rfl]
   rfl
  ·
   have hi:=rngE (f:=ac (.int 2)) (δ:=[some (.scr K ns),some (.sh (aS n T)),some (.sh (av c n T)),none,none]) (j:=2) rfl (by omega) (by omega)
   unfold bB
   rw [hi]
   exact hl
  ·
   refine ret1 (br (a:=.sh (.lst (T.map aq))) (b:=.sh (.lst (T.map aq))) (dg c rfl) (i7 rfl) ?_) rfl
   have:=ET.oEqL (show max 1 1+1≤15 by decide) T T
   exact this.trans (by simp)
 unfold m_law runL
 have e:F_law c K (some (.scr K ns)::List.replicate (5-1) none)=some (.rt (.sh (.bl true))):=hr
 rw [e]
 rfl
end Pg
end
section
set_option Elab.async false
set_option linter.all false
set_option maxRecDepth 100000
set_option maxHeartbeats 0
lay_quick PySem.Challenge.rw_earworks_k03_whole_turned
namespace Hx
open PySem PySem.W L2
noncomputable abbrev Pf:Program:=(PySem.W.Fast.tw2368527892694137696 PySem.W.Fast.tw998559690754582084).toRowW.1
noncomputable def U (i:Nat):Stmt:=Pf.main.body.getD i (.Pass ⟨0,0,0,0⟩)
noncomputable def M (i j:Nat):Stmt:=inClass (U i) j
abbrev vI:=@Value.int
abbrev vR:=@Value.ref
abbrev vS:=@Value.str
abbrev vN:=Value.none
abbrev vT:=@Value.type
abbrev vB:=@Value.bool
abbrev vU:=@Value.builtin
abbrev kH:=@PyData.keyHash
abbrev dE:=@DictEntry.mk
abbrev d_A:=@a0
abbrev d_B:=@aP
abbrev d_S:=@ap
noncomputable abbrev y0:String:=PySem.W.SL.s2766695959194262286x5
noncomputable abbrev y1:String:=PySem.W.SL.s5856160107412720595x4
noncomputable abbrev y2:String:=PySem.W.SL.s658472552662922059x5
noncomputable abbrev y3:String:=PySem.W.SL.s14018661285674007319x4
noncomputable abbrev y4:String:=PySem.W.SL.s7097527257260152453x26
noncomputable abbrev y5:String:=PySem.W.SL.s7174869446012820540x8
noncomputable abbrev y6:String:=PySem.W.SL.s11030030927630378310x26
noncomputable abbrev y7:String:=PySem.W.SL.s10062305145149207511x16
noncomputable abbrev y8:String:=PySem.W.SL.s17162191345867700912x4
noncomputable abbrev y9:String:=PySem.W.SL.s2742458400755230247x6
noncomputable abbrev y10:String:=PySem.W.SL.s11443829558043349243x14
noncomputable abbrev y11:String:=PySem.W.SL.s14755015743595814543x17
noncomputable abbrev y12:String:=PySem.W.SL.s6511155373996960695x17
noncomputable abbrev y13:String:=PySem.W.SL.s12411053484034534018x21
noncomputable abbrev y14:String:=PySem.W.SL.s10220274742760427390x26
noncomputable abbrev y15:String:=PySem.W.SL.s4290257624100764138x5
noncomputable abbrev y16:String:=PySem.W.SL.s4860613602091757760x24
noncomputable abbrev y17:String:=PySem.W.SL.s6070975301684473832x10
noncomputable abbrev y18:String:=PySem.W.SL.s5946037652744460706x9
noncomputable abbrev y19:String:=PySem.W.SL.s4278001404047624695x13
noncomputable abbrev y20:String:=PySem.W.SL.s4209523147560561109x18
def z0:Str:=⟨⟨[60,109,111,100,117,108,101,62]⟩⟩
def z1:Str:=⟨⟨[47,99,108,97,105,109,47,99,117,116,46,112,121]⟩⟩
def z2:Str:=⟨⟨[95,95,109,97,105,110,95,95]⟩⟩
def z3:Str:=⟨⟨[95,95,110,97,109,101,95,95]⟩⟩
def z4:Str:=⟨⟨[101,97,114,119,111,114,107,115,46,98,97,115,105,99,115]⟩⟩
def z5:Str:=⟨⟨[95,95,100,111,99,95,95]⟩⟩
def z6:Str:=⟨⟨[95,95,112,97,99,107,97,103,101,95,95]⟩⟩
def z7:Str:=⟨⟨[95,95,108,111,97,100,101,114,95,95]⟩⟩
def z8:Str:=⟨⟨[95,95,115,112,101,99,95,95]⟩⟩
def z9:Str:=⟨⟨[95,95,97,110,110,111,116,97,116,105,111,110,115,95,95]⟩⟩
def z10:Str:=⟨⟨[95,95,98,117,105,108,116,105,110,115,95,95]⟩⟩
def z11:Str:=⟨⟨[95,95,102,105,108,101,95,95]⟩⟩
def z12:Str:=⟨⟨[95,95,99,97,99,104,101,100,95,95]⟩⟩
def z13:Str:=⟨⟨[95,119,97,108,108]⟩⟩
def z14:Str:=⟨⟨[105,115,95,110,117,109,98,101,114]⟩⟩
def z15:Str:=⟨⟨[97,108,108,95,100,105,102,102,101,114]⟩⟩
def z16:Str:=⟨⟨[104,97,115,95,112,111,105,110,116]⟩⟩
def z17:Str:=⟨⟨[97,108,108,95,112,111,105,110,116,115]⟩⟩
def z18:Str:=⟨⟨[105,115,95,112,111,105,110,116,95,115,101,116]⟩⟩
def z19:Str:=⟨⟨[116,105,101,95,98,101,116,119,101,101,110]⟩⟩
def z20:Str:=⟨⟨[111,116,104,101,114,95,101,110,100]⟩⟩
def z21:Str:=⟨⟨[112,111,105,110,116,115,95,108,101,102,116,95,116,111]⟩⟩
def z22:Str:=⟨⟨[98,97,99,107,119,97,114,100,115]⟩⟩
def z23:Str:=⟨⟨[114,101,97,99,104,101,100]⟩⟩
def z24:Str:=⟨⟨[105,115,95,119,97,108,107]⟩⟩
def z25:Str:=⟨⟨[105,115,95,119,97,121]⟩⟩
def z26:Str:=⟨⟨[107]⟩⟩
def z27:Str:=⟨⟨[118,97,108,117,101]⟩⟩
def z28:Str:=⟨⟨[110,117,109,98,101,114,115]⟩⟩
def z29:Str:=⟨⟨[119,101,98]⟩⟩
def z30:Str:=⟨⟨[112,111,105,110,116]⟩⟩
def z31:Str:=⟨⟨[111,110,101]⟩⟩
def z32:Str:=⟨⟨[111,116,104,101,114]⟩⟩
def z33:Str:=⟨⟨[116,105,101]⟩⟩
def z34:Str:=⟨⟨[98,101,103,105,110]⟩⟩
def z35:Str:=⟨⟨[115,116,101,112,115]⟩⟩
def z36:Str:=⟨⟨[102,111,117,110,100]⟩⟩
def z37:Str:=⟨⟨[112,108,97,99,101]⟩⟩
def z38:Str:=⟨⟨[115,116,101,112]⟩⟩
def z39:Str:=⟨⟨[119,97,108,107]⟩⟩
def z40:Str:=⟨⟨[101,97,114,119,111,114,107,115,46,97,110,115,119,101,114,115]⟩⟩
def z41:Str:=⟨⟨[105,115,95,114,105,110,103]⟩⟩
def z42:Str:=⟨⟨[99,111,112,105,101,100,95,119,97,108,107,115]⟩⟩
def z43:Str:=⟨⟨[112,108,97,99,101,115,95,111,102]⟩⟩
def z44:Str:=⟨⟨[105,115,95,102,117,114,116,104,101,114,95,101,97,114]⟩⟩
def z45:Str:=⟨⟨[65,110,115,119,101,114]⟩⟩
def z46:Str:=⟨⟨[119,97,108,107,115]⟩⟩
def z47:Str:=⟨⟨[112,108,97,99,101,115]⟩⟩
def z48:Str:=⟨⟨[95,95,109,111,100,117,108,101,95,95]⟩⟩
def z49:Str:=⟨⟨[95,95,113,117,97,108,110,97,109,101,95,95]⟩⟩
def z50:Str:=⟨⟨[95,95,102,105,114,115,116,108,105,110,101,110,111,95,95]⟩⟩
def z51:Str:=⟨⟨[95,95,115,116,97,116,105,99,95,97,116,116,114,105,98,117,116,101,115,95,95]⟩⟩
def z52:Str:=⟨⟨[95,95,100,105,99,116,95,95]⟩⟩
def z53:Str:=⟨⟨[95,95,119,101,97,107,114,101,102,95,95]⟩⟩
def z54:Str:=⟨⟨[69,97,114,115]⟩⟩
def z55:Str:=⟨⟨[95,95,105,110,105,116,95,95]⟩⟩
def z56:Str:=⟨⟨[115,104,111,119,115]⟩⟩
def z57:Str:=⟨⟨[97,108,108,95,119,97,121,115]⟩⟩
def z58:Str:=⟨⟨[115,101,108,102]⟩⟩
def z59:Str:=⟨⟨[101,97,114,115]⟩⟩
def z60:Str:=⟨⟨[69,97,114,115,46,95,95,105,110,105,116,95,95]⟩⟩
def z61:Str:=⟨⟨[97,104,101,97,100]⟩⟩
def z62:Str:=⟨⟨[101,97,114]⟩⟩
def z63:Str:=⟨⟨[97,108,108,95,112,108,97,99,101,115]⟩⟩
def z64:Str:=⟨⟨[69,97,114,115,46,115,104,111,119,115]⟩⟩
def z65:Str:=⟨⟨[69,97,114,115,46,97,108,108,95,119,97,121,115]⟩⟩
def z66:Str:=⟨⟨[66,97,114]⟩⟩
def z67:Str:=⟨⟨[112,111,105,110,116,115]⟩⟩
def z68:Str:=⟨⟨[66,97,114,46,95,95,105,110,105,116,95,95]⟩⟩
def z69:Str:=⟨⟨[66,97,114,46,115,104,111,119,115]⟩⟩
def z70:Str:=⟨⟨[101,97,114,119,111,114,107,115,46,101,114,114,111,114,115]⟩⟩
def z71:Str:=⟨⟨[84,117,114,110,101,100]⟩⟩
def z72:Str:=⟨⟨[98,101,103,105,110,115]⟩⟩
def z73:Str:=⟨⟨[84,117,114,110,101,100,46,95,95,105,110,105,116,95,95]⟩⟩
def z74:Str:=⟨⟨[84,117,114,110,101,100,46,115,104,111,119,115]⟩⟩
def z75:Str:=⟨⟨[87,101,98,69,114,114,111,114]⟩⟩
def z76:Str:=⟨⟨[66,97,100,87,101,98]⟩⟩
def z77:Str:=⟨⟨[101,97,114,119,111,114,107,115,46,102,108,111,119,115]⟩⟩
def z78:Str:=⟨⟨[84,111,111,70,101,119]⟩⟩
def z79:Str:=⟨⟨[115,116,101,112,115,95,111,102]⟩⟩
def z80:Str:=⟨⟨[115,116,101,112,115,95,98,101,115,105,100,101]⟩⟩
def z81:Str:=⟨⟨[115,116,101,112,115,95,98,117,116]⟩⟩
def z82:Str:=⟨⟨[115,104,111,114,116,101,115,116,95,119,97,108,107]⟩⟩
def z83:Str:=⟨⟨[115,116,101,112,95,97,110,100,95,119,97,108,107]⟩⟩
def z84:Str:=⟨⟨[101,110,100,115]⟩⟩
def z85:Str:=⟨⟨[109,101,116]⟩⟩
def z86:Str:=⟨⟨[101,97,114,119,111,114,107,115,46,119,101,98,115]⟩⟩
def z87:Str:=⟨⟨[119,97,121,95,111,118,101,114]⟩⟩
def z88:Str:=⟨⟨[114,105,110,103,95,111,118,101,114]⟩⟩
def z89:Str:=⟨⟨[115,116,101,112,115,95,105,110]⟩⟩
def z90:Str:=⟨⟨[77,79,83,84,95,80,79,73,78,84,83]⟩⟩
def z91:Str:=⟨⟨[77,79,83,84,95,84,73,69,83]⟩⟩
def z92:Str:=⟨⟨[105,115,95,116,105,101]⟩⟩
def z93:Str:=⟨⟨[87,101,98]⟩⟩
def z94:Str:=⟨⟨[116,105,101,115]⟩⟩
def z95:Str:=⟨⟨[87,101,98,46,95,95,105,110,105,116,95,95]⟩⟩
def z96:Str:=⟨⟨[87,101,98,46,116,105,101,115]⟩⟩
def z97:Str:=⟨⟨[112,97,105,114,115]⟩⟩
def z98:Str:=⟨⟨[108,97,119,95,101,97,114,119,111,114,107,115,95,107,48,51,95,119,104,111,108,101,95,116,117,114,110,101,100]⟩⟩
def z99:Str:=⟨⟨[114,101,102,117,115,101,95,102,101,119,101,114]⟩⟩
def jF:Str:=⟨⟨[112,111,105,110,116,115,95,98,101,104,105,110,100,95,97,95,98,97,114]⟩⟩
def jG:Str:=⟨⟨[110,101,120,116,95,101,97,114]⟩⟩
def jH:Str:=⟨⟨[97,108,108,95,101,97,114,115]⟩⟩
def jI:Str:=⟨⟨[98,101,103,105,110,115,95,97,108,111,110,103]⟩⟩
def jJ:Str:=⟨⟨[101,97,114,101,100]⟩⟩
def jK:Str:=⟨⟨[116,117,114,110,101,100]⟩⟩
def jL:Str:=⟨⟨[95,108,97,119,95,99,101,108,108,95,97,116]⟩⟩
def jM:Str:=⟨⟨[95,108,97,119,95,100,114,97,119]⟩⟩
def jN:Str:=⟨⟨[95,108,97,119,95,116,111,108,100]⟩⟩
def jO:Str:=⟨⟨[95,108,97,119,95,108,101,97,118,105,110,103]⟩⟩
def jP:Str:=⟨⟨[95,108,97,119,95,114,105,115,105,110,103]⟩⟩
def z111:Str:=⟨⟨[108,101,97,115,116]⟩⟩
def iJ:Str:=⟨⟨[101,97,114,119,111,114,107,115,46,101,97,114,115]⟩⟩
def z113:Str:=⟨⟨[116,111,108,100]⟩⟩
def z114:Str:=⟨⟨[95,108,97,119,95,115,99,114,105,112,116]⟩⟩
def z115:Str:=⟨⟨[95,108,97,119,95,107]⟩⟩
def z116:Str:=⟨⟨[95,108,97,119,95,99,101,108,108]⟩⟩
def z117:Str:=⟨⟨[95,108,97,119,95,109,97,110,121]⟩⟩
def z118:Str:=⟨⟨[95,108,97,119,95,112,114,105,109,101,115]⟩⟩
def z119:Str:=⟨⟨[95,108,97,119,95,108,101,97,115,116]⟩⟩
def z120:Str:=⟨⟨[95,108,97,119,95,112,111,105,110,116,115]⟩⟩
def z121:Str:=⟨⟨[95,108,97,119,95,107,105,110,100]⟩⟩
def z122:Str:=⟨⟨[95,108,97,119,95,116,105,101,115]⟩⟩
def z123:Str:=⟨⟨[95,108,97,119,95,116,117,114,110]⟩⟩
def z124:Str:=⟨⟨[95,108,97,119,95,111,110,101]⟩⟩
def z125:Str:=⟨⟨[95,108,97,119,95,111,116,104,101,114]⟩⟩
def z126:Str:=⟨⟨[95,108,97,119,95,109,111,115,116]⟩⟩
def z127:Str:=⟨⟨[95,108,97,119,95,115,111,109,101]⟩⟩
def z128:Str:=⟨⟨[95,108,97,119,95,108,97,115,116]⟩⟩
def z129:Str:=⟨⟨[95,108,97,119,95,112,111,105,110,116]⟩⟩
def z130:Str:=⟨⟨[95,108,97,119,95,114,101,97,99,104,101,100]⟩⟩
def z131:Str:=⟨⟨[95,108,97,119,95,116,117,114,110,101,100,95,114,105,103,104,116]⟩⟩
def z132:Str:=⟨⟨[108,97,119]⟩⟩
def z133:Str:=⟨⟨[95,108,97,119,95,116,111,108,100,95,104,101,114,101]⟩⟩
def z134:Str:=⟨⟨[95,108,97,119,95,98,101,103,105,110,115]⟩⟩
def z135:Str:=⟨⟨[95,108,97,119,95,115,116,97,114,116]⟩⟩
def z136:Str:=⟨⟨[95,108,97,119,95,109,101,116]⟩⟩
def z137:Str:=⟨⟨[95,108,97,119,95,116,105,101]⟩⟩
def z138:Str:=⟨⟨[95,108,97,119,95,98,101,103,105,110]⟩⟩
def z139:Str:=⟨⟨[95,108,97,119,95,101,110,100]⟩⟩
def z140:Str:=⟨⟨[95,108,97,119,95,119,101,98]⟩⟩
def z141:Str:=⟨⟨[95,108,97,119,95,97,103,97,105,110]⟩⟩
def z142:Str:=⟨⟨[95,108,97,119,95,102,111,117,110,100]⟩⟩
noncomputable def oT (l:List Value):Params→Obj:=fun _=>Obj.mk (vT y0) none (.seq l.toArray 0) #[]
noncomputable def oF (l:List Value):Params→Obj:=fun _=>Obj.mk vN none (.fields l.toArray) #[]
noncomputable def oC (a:Str) (a':Nat) (b:Str) (b' c:Nat) (d:Int) (e f:Int) (h:Nat) (i:Bool) (j k l m:Nat) (n o:Int) (p:Nat):Params→Obj:=fun _=>Obj.mk (vT y1) none (.fields #[vS a a',vS b b',vS z1 c,vI d 0,vI e 0,vI 0 0,vI 0 0,vI f 0,vR h,vB i,vI 181 0,vR j,vN,vR k,vR l,vR m,vI n 0,vI o 0,vS z1 p]) #[]
noncomputable def oG (a b:Str) (s:Stmt):Params→Obj:=fun _=>Obj.mk vN none (.func (FuncData.mk a b (d_A s) (.stmts (d_B s)) (d_S s) 0 [] vN vN vN vN none vN vN 0)) #[]
noncomputable def oH (a b:Str) (s:Stmt) (m:Str) (k r:Nat):Params→Obj:=fun _=>Obj.mk (vT y5) none (.func (FuncData.mk a b (d_A s) (.stmts (d_B s)) (d_S s) 3 [] vN vN vN (vS m k) none (vR r) vN 0)) #[]
def ev {α:Type}:List α→List α
 | []=>[]
 | [x]=>[x]
 | x::_::r=>x::ev r
def od {α:Type}:List α→List α
 | []=>[]
 | [_]=>[]
 | _::y::r=>y::od r
def bt (P:Params):Nat→List (Params→Obj)→BT
 | 0,_=>.nil
 | _+1,[]=>.nil
 | f+1,x::xs=>.node (x P) (bt P f (ev xs)) (bt P f (od xs))
noncomputable def l0:List (Params→Obj):=[boot_o_0,boot_o_1,boot_o_2,boot_o_3,boot_o_4,boot_o_5,boot_o_6,boot_o_7,boot_o_8,boot_o_9,boot_o_10,oT [],oF [],fun _=>Obj.mk (vT y1) none (.fields #[vS z0 182,vS z0 183,vS z1 184,vI 1 0,vI 0 0,vI 0 0,vI 0 0,vI 0 0,vR 11,vB false,vI 181 0,vR 12,vN,vN,vN,vN,vI 185 0,vI 1 0,vS z1 186]) #[],fun _=>Obj.mk (vT y2) none .plain #[some (vR 13),some (vR 3),some (vR 3),none,some (vS z2 164),none,some (vR 0)]]
noncomputable def t0 (P:Params):BT:=bt P 10 l0
noncomputable def l1:List (Params→Obj):=((l0.set 3 (fun P=>Obj.mk (vT y3) none (.dict #[dE (kH P z3) (vS z3 165) (vS z4 194),dE (kH P z5) (vS z5 166) vN,dE (kH P z6) (vS z6 167) vN,dE (kH P z7) (vS z7 168) (vU y4),dE (kH P z8) (vS z8 169) vN,dE (kH P z9) (vS z9 170) (vR 6),dE (kH P z10) (vS z10 171) (vR 4),dE (kH P z11) (vS z11 173) (vS z1 172),dE (kH P z12) (vS z12 174) vN,dE (kH P z13) (vS z13 193) (vR 21),dE (kH P z14) (vS z14 202) (vR 28),dE (kH P z15) (vS z15 209) (vR 35),dE (kH P z16) (vS z16 217) (vR 42),dE (kH P z17) (vS z17 224) (vR 49),dE (kH P z18) (vS z18 230) (vR 54),dE (kH P z19) (vS z19 238) (vR 61),dE (kH P z20) (vS z20 246) (vR 68),dE (kH P z21) (vS z21 252) (vR 73),dE (kH P z22) (vS z22 258) (vR 78),dE (kH P z23) (vS z23 269) (vR 85),dE (kH P z24) (vS z24 275) (vR 90),dE (kH P z25) (vS z25 283) (vR 97)] 22) #[])).set 12 (oF [vI 1 0,vI 0 0,vR 20,vI 5 0,vI 0 0,vR 27,vI 7 0,vI 0 0,vR 34,vI 9 0,vI 0 0,vR 41,vI 11 0,vI 0 0,vR 48,vI 13 0,vI 0 0,vR 53,vI 15 0,vI 0 0,vR 60,vI 17 0,vI 0 0,vR 67,vI 19 0,vI 0 0,vR 72,vI 22 0,vI 0 0,vR 77,vI 24 0,vI 0 0,vR 84,vI 33 0,vI 0 0,vR 89,vI 44 0,vI 0 0,vR 96]))++[oT [],oF [],oT [vS z26 190],oT [],oG z13 z13 (U 0),oC z13 187 z13 188 189 1 1 3 15 true 16 17 18 19 191 1 192,oH z13 z13 (U 0) z2 164 20,oT [],oF [],oT [vS z27 199],oT [],oG z14 z14 (U 2),oC z14 196 z14 197 198 5 1 3 22 true 23 24 25 26 200 5 201,oH z14 z14 (U 2) z4 194 27,oT [],oF [],oT [vS z28 206],oT [],oG z15 z15 (U 3),oC z15 203 z15 204 205 7 1 3 29 true 30 31 32 33 207 7 208,oH z15 z15 (U 3) z4 194 34,oT [],oF [],oT [vS z29 213,vS z30 214],oT [],oG z16 z16 (U 4),oC z16 210 z16 211 212 9 2 3 36 true 37 38 39 40 215 9 216,oH z16 z16 (U 4) z4 194 41,oT [],oF [],oT [vS z29 221],oT [],oG z17 z17 (U 5),oC z17 218 z17 219 220 11 1 3 43 true 44 45 46 47 222 11 223,oH z17 z17 (U 5) z4 194 48,oT [],oF [],oG z18 z18 (U 6),fun _=>Obj.mk (vT y1) none (.fields #[vS z18 225,vS z18 226,vS z1 227,vI 13 0,vI 2 0,vI 0 0,vI 0 0,vI 3 0,vR 50,vB true,vI 181 0,vR 51,vN,vN,vN,vR 52,vI 228 0,vI 13 0,vS z1 229]) #[],oH z18 z18 (U 6) z4 194 53,oT [],oF [],oT [vS z31 234,vS z32 235],oT [],oG z19 z19 (U 7),oC z19 231 z19 232 233 15 2 3 55 true 56 57 58 59 236 15 237,oH z19 z19 (U 7) z4 194 60,oT [],oF [],oT [vS z33 242,vS z30 243],oT [],oG z20 z20 (U 8),oC z20 239 z20 240 241 17 2 3 62 true 63 64 65 66 244 17 245,oH z20 z20 (U 8) z4 194 67,oT [],oF [],oG z21 z21 (U 9),fun _=>Obj.mk (vT y1) none (.fields #[vS z21 247,vS z21 248,vS z1 249,vI 19 0,vI 2 0,vI 0 0,vI 0 0,vI 3 0,vR 69,vB true,vI 181 0,vR 70,vN,vN,vN,vR 71,vI 250 0,vI 19 0,vS z1 251]) #[],oH z21 z21 (U 9) z4 194 72,oT [],oF [],oG z22 z22 (U 10),fun _=>Obj.mk (vT y1) none (.fields #[vS z22 253,vS z22 254,vS z1 255,vI 22 0,vI 1 0,vI 0 0,vI 0 0,vI 3 0,vR 74,vB true,vI 181 0,vR 75,vN,vN,vN,vR 76,vI 256 0,vI 22 0,vS z1 257]) #[],oH z22 z22 (U 10) z4 194 77,oT [],oF [],oT [vS z34 262,vS z35 263,vS z36 264,vS z37 265,vS z38 266],oT [],oG z23 z23 (U 11),oC z23 259 z23 260 261 24 2 3 79 true 80 81 82 83 267 24 268,oH z23 z23 (U 11) z4 194 84,oT [],oF [],oG z24 z24 (U 12),fun _=>Obj.mk (vT y1) none (.fields #[vS z24 270,vS z24 271,vS z1 272,vI 33 0,vI 2 0,vI 0 0,vI 0 0,vI 3 0,vR 86,vB true,vI 181 0,vR 87,vN,vN,vN,vR 88,vI 273 0,vI 33 0,vS z1 274]) #[],oH z24 z24 (U 12) z4 194 89,oT [],oF [],oT [vS z29 279,vS z39 280],oT [],oG z25 z25 (U 13),oC z25 276 z25 277 278 44 2 3 91 true 92 93 94 95 281 44 282,oH z25 z25 (U 13) z4 194 96]
noncomputable def t1 (P:Params):BT:=bt P 10 l1
noncomputable def l2:List (Params→Obj):=((l1.set 3 (fun P=>Obj.mk (vT y3) none (.dict #[dE (kH P z3) (vS z3 165) (vS z40 292),dE (kH P z5) (vS z5 166) vN,dE (kH P z6) (vS z6 167) vN,dE (kH P z7) (vS z7 168) (vU y4),dE (kH P z8) (vS z8 169) vN,dE (kH P z9) (vS z9 170) (vR 6),dE (kH P z10) (vS z10 171) (vR 4),dE (kH P z11) (vS z11 173) (vS z1 172),dE (kH P z12) (vS z12 174) vN,dE (kH P z13) (vS z13 193) (vR 21),dE (kH P z14) (vS z14 202) (vR 28),dE (kH P z15) (vS z15 209) (vR 35),dE (kH P z16) (vS z16 217) (vR 42),dE (kH P z17) (vS z17 224) (vR 49),dE (kH P z18) (vS z18 230) (vR 54),dE (kH P z19) (vS z19 238) (vR 61),dE (kH P z20) (vS z20 246) (vR 68),dE (kH P z21) (vS z21 252) (vR 73),dE (kH P z22) (vS z22 258) (vR 78),dE (kH P z23) (vS z23 269) (vR 85),dE (kH P z24) (vS z24 275) (vR 90),dE (kH P z25) (vS z25 283) (vR 97),dE (kH P z41) (vS z41 291) (vR 104),dE (kH P z42) (vS z42 299) (vR 109),dE (kH P z43) (vS z43 308) (vR 116),dE (kH P z44) (vS z44 314) (vR 121),dE (kH P z45) (vS z45 334) (vR 131)] 27) #[])).set 12 (oF [vI 1 0,vI 0 0,vR 20,vI 5 0,vI 0 0,vR 27,vI 7 0,vI 0 0,vR 34,vI 9 0,vI 0 0,vR 41,vI 11 0,vI 0 0,vR 48,vI 13 0,vI 0 0,vR 53,vI 15 0,vI 0 0,vR 60,vI 17 0,vI 0 0,vR 67,vI 19 0,vI 0 0,vR 72,vI 22 0,vI 0 0,vR 77,vI 24 0,vI 0 0,vR 84,vI 33 0,vI 0 0,vR 89,vI 44 0,vI 0 0,vR 96,vI 46 0,vI 0 0,vR 103,vI 51 0,vI 0 0,vR 108,vI 53 0,vI 0 0,vR 115,vI 58 0,vI 0 0,vR 120,vI 64 0,vI 0 0,vR 127]))++[oT [],oF [],oT [vS z29 287,vS z39 288],oT [],oG z41 z41 (U 14),oC z41 284 z41 285 286 46 2 3 98 true 99 100 101 102 289 46 290,oH z41 z41 (U 14) z4 194 103,oT [],oF [],oG z42 z42 (U 16),fun _=>Obj.mk (vT y1) none (.fields #[vS z42 294,vS z42 295,vS z1 296,vI 51 0,vI 1 0,vI 0 0,vI 0 0,vI 3 0,vR 105,vB true,vI 181 0,vR 106,vN,vN,vN,vR 107,vI 297 0,vI 51 0,vS z1 298]) #[],oH z42 z42 (U 16) z40 292 108,oT [],oF [],oT [vS z46 303,vS z47 304,vS z39 305],oT [],oG z43 z43 (U 17),oC z43 300 z43 301 302 53 1 3 110 true 111 112 113 114 306 53 307,oH z43 z43 (U 17) z40 292 115,oT [],oF [],oG z44 z44 (U 18),fun _=>Obj.mk (vT y1) none (.fields #[vS z44 309,vS z44 310,vS z1 311,vI 58 0,vI 3 0,vI 0 0,vI 0 0,vI 3 0,vR 117,vB true,vI 181 0,vR 118,vN,vN,vN,vR 119,vI 312 0,vI 58 0,vS z1 313]) #[],oH z44 z44 (U 18) z40 292 120,oT [],fun _=>Obj.mk (vT y6) none (.fields #[vU y7,vT y8]) #[],fun P=>Obj.mk (vT y3) none (.dict #[dE (kH P z48) (vS z48 322) (vS z40 292),dE (kH P z49) (vS z49 324) (vS z45 323),dE (kH P z50) (vS z50 326) (vI 64 325),dE (kH P z51) (vS z51 327) (vR 129)] 4) #[],oT [],oF [],fun _=>Obj.mk (vT y1) none (.fields #[vS z45 317,vS z45 318,vS z1 319,vI 64 0,vI 0 0,vI 0 0,vI 0 0,vI 0 0,vR 125,vB false,vI 181 0,vR 126,vN,vN,vN,vN,vI 320 0,vI 64 0,vS z1 321]) #[],fun _=>Obj.mk (vT y2) none .plain #[some (vR 127),some (vR 3),some (vR 124),none,some (vS z40 292),none,some (vR 0)],oT [],fun P=>Obj.mk (vT y3) none (.dict #[dE (kH P z48) (vS z48 322) (vS z40 292),dE (kH P z50) (vS z50 326) (vI 64 325),dE (kH P z51) (vS z51 327) (vR 129),dE (kH P z52) (vS z52 329) (vR 132),dE (kH P z53) (vS z53 331) (vR 133),dE (kH P z5) (vS z5 332) vN] 4) #[],fun _=>Obj.mk (vT y8) none (.cls (ClassData.mk z45 [vT y9] [vR 131,vT y9] 130 z45 true [] [] false none false)) #[none,none,some (vS z45 315),some (vS z45 323),some (vU y10),some (vB true)],fun _=>Obj.mk (vT y11) none (.fields #[vS z52 328,vR 131,vU y12,vU y13]) #[],fun _=>Obj.mk (vT y11) none (.fields #[vS z53 330,vR 131,vU y14,vN]) #[],fun _=>Obj.mk (vT y15) none (.fields #[vR 131,vR 131,vR 131]) #[],fun _=>Obj.mk (vT y6) none (.fields #[vU y16,vR 131]) #[]]
noncomputable def t2 (P:Params):BT:=bt P 10 l2
noncomputable def l3:List (Params→Obj):=(((l2.set 3 (fun P=>Obj.mk (vT y3) none (.dict #[dE (kH P z3) (vS z3 165) (vS z40 292),dE (kH P z5) (vS z5 166) vN,dE (kH P z6) (vS z6 167) vN,dE (kH P z7) (vS z7 168) (vU y4),dE (kH P z8) (vS z8 169) vN,dE (kH P z9) (vS z9 170) (vR 6),dE (kH P z10) (vS z10 171) (vR 4),dE (kH P z11) (vS z11 173) (vS z1 172),dE (kH P z12) (vS z12 174) vN,dE (kH P z13) (vS z13 193) (vR 21),dE (kH P z14) (vS z14 202) (vR 28),dE (kH P z15) (vS z15 209) (vR 35),dE (kH P z16) (vS z16 217) (vR 42),dE (kH P z17) (vS z17 224) (vR 49),dE (kH P z18) (vS z18 230) (vR 54),dE (kH P z19) (vS z19 238) (vR 61),dE (kH P z20) (vS z20 246) (vR 68),dE (kH P z21) (vS z21 252) (vR 73),dE (kH P z22) (vS z22 258) (vR 78),dE (kH P z23) (vS z23 269) (vR 85),dE (kH P z24) (vS z24 275) (vR 90),dE (kH P z25) (vS z25 283) (vR 97),dE (kH P z41) (vS z41 291) (vR 104),dE (kH P z42) (vS z42 299) (vR 109),dE (kH P z43) (vS z43 308) (vR 116),dE (kH P z44) (vS z44 314) (vR 121),dE (kH P z45) (vS z45 334) (vR 131),dE (kH P z54) (vS z54 378) (vR 166)] 28) #[])).set 12 (oF [vI 1 0,vI 0 0,vR 20,vI 5 0,vI 0 0,vR 27,vI 7 0,vI 0 0,vR 34,vI 9 0,vI 0 0,vR 41,vI 11 0,vI 0 0,vR 48,vI 13 0,vI 0 0,vR 53,vI 15 0,vI 0 0,vR 60,vI 17 0,vI 0 0,vR 67,vI 19 0,vI 0 0,vR 72,vI 22 0,vI 0 0,vR 77,vI 24 0,vI 0 0,vR 84,vI 33 0,vI 0 0,vR 89,vI 44 0,vI 0 0,vR 96,vI 46 0,vI 0 0,vR 103,vI 51 0,vI 0 0,vR 108,vI 53 0,vI 0 0,vR 115,vI 58 0,vI 0 0,vR 120,vI 64 0,vI 0 0,vR 127,vI 66 0,vI 0 0,vR 141])).set 131 (fun _=>Obj.mk (vT y8) none (.cls (ClassData.mk z45 [vT y9] [vR 131,vT y9] 130 z45 true [] [vR 166] false none false)) #[none,none,some (vS z45 315),some (vS z45 323),some (vU y10),some (vB true)]))++[oT [vR 131],fun _=>Obj.mk (vT y6) none (.fields #[vU y7,vT y8]) #[],fun P=>Obj.mk (vT y3) none (.dict #[dE (kH P z48) (vS z48 342) (vS z40 292),dE (kH P z49) (vS z49 344) (vS z54 343),dE (kH P z50) (vS z50 346) (vI 66 345),dE (kH P z55) (vS z55 354) (vR 149),dE (kH P z56) (vS z56 365) (vR 156),dE (kH P z57) (vS z57 373) (vR 163),dE (kH P z51) (vS z51 375) (vR 164)] 7) #[],oT [],oF [vI 68 0,vI 4 0,vR 148,vI 71 0,vI 4 0,vR 155,vI 82 0,vI 4 0,vR 162],fun _=>Obj.mk (vT y1) none (.fields #[vS z54 337,vS z54 338,vS z1 339,vI 66 0,vI 0 0,vI 0 0,vI 0 0,vI 0 0,vR 139,vB false,vI 181 0,vR 140,vN,vN,vN,vN,vI 340 0,vI 66 0,vS z1 341]) #[],fun _=>Obj.mk (vT y2) none .plain #[some (vR 141),some (vR 3),some (vR 138),none,some (vS z40 292),none,some (vR 0)],oT [],oF [],oT [vS z58 350,vS z59 351],oT [],oG z55 z60 (M 20 0),oC z55 347 z60 348 349 68 2 3 143 true 144 145 146 147 352 68 353,oH z55 z60 (M 20 0) z40 292 148,oT [],oF [],oT [vS z58 358,vS z29 359,vS z61 360,vS z62 361,vS z63 362],oT [],oG z56 z64 (M 20 1),oC z56 355 z64 356 357 71 2 3 150 true 151 152 153 154 363 71 364,oH z56 z64 (M 20 1) z40 292 155,oT [],oF [],oT [vS z58 369,vS z29 370],oT [],oG z57 z65 (M 20 2),oC z57 366 z65 367 368 82 2 3 157 true 158 159 160 161 371 82 372,oH z57 z65 (M 20 2) z40 292 162,oT [vS z59 374],fun P=>Obj.mk (vT y3) none (.dict #[dE (kH P z48) (vS z48 342) (vS z40 292),dE (kH P z50) (vS z50 346) (vI 66 345),dE (kH P z55) (vS z55 354) (vR 149),dE (kH P z56) (vS z56 365) (vR 156),dE (kH P z57) (vS z57 373) (vR 163),dE (kH P z51) (vS z51 375) (vR 164),dE (kH P z5) (vS z5 376) vN] 2) #[],fun _=>Obj.mk (vT y8) none (.cls (ClassData.mk z54 [vR 131] [vR 166,vR 131,vT y9] 165 z54 true [] [] false none false)) #[some (vR 136),none,some (vS z54 335),some (vS z54 343),some (vU y10),some (vB true)],fun _=>Obj.mk (vT y15) none (.fields #[vR 166,vR 166,vR 166]) #[],fun _=>Obj.mk (vT y6) none (.fields #[vU y16,vR 166]) #[]]
noncomputable def t3 (P:Params):BT:=bt P 10 l3
noncomputable def l4:List (Params→Obj):=(((l3.set 3 (fun P=>Obj.mk (vT y3) none (.dict #[dE (kH P z3) (vS z3 165) (vS z40 292),dE (kH P z5) (vS z5 166) vN,dE (kH P z6) (vS z6 167) vN,dE (kH P z7) (vS z7 168) (vU y4),dE (kH P z8) (vS z8 169) vN,dE (kH P z9) (vS z9 170) (vR 6),dE (kH P z10) (vS z10 171) (vR 4),dE (kH P z11) (vS z11 173) (vS z1 172),dE (kH P z12) (vS z12 174) vN,dE (kH P z13) (vS z13 193) (vR 21),dE (kH P z14) (vS z14 202) (vR 28),dE (kH P z15) (vS z15 209) (vR 35),dE (kH P z16) (vS z16 217) (vR 42),dE (kH P z17) (vS z17 224) (vR 49),dE (kH P z18) (vS z18 230) (vR 54),dE (kH P z19) (vS z19 238) (vR 61),dE (kH P z20) (vS z20 246) (vR 68),dE (kH P z21) (vS z21 252) (vR 73),dE (kH P z22) (vS z22 258) (vR 78),dE (kH P z23) (vS z23 269) (vR 85),dE (kH P z24) (vS z24 275) (vR 90),dE (kH P z25) (vS z25 283) (vR 97),dE (kH P z41) (vS z41 291) (vR 104),dE (kH P z42) (vS z42 299) (vR 109),dE (kH P z43) (vS z43 308) (vR 116),dE (kH P z44) (vS z44 314) (vR 121),dE (kH P z45) (vS z45 334) (vR 131),dE (kH P z54) (vS z54 378) (vR 166),dE (kH P z66) (vS z66 411) (vR 192)] 29) #[])).set 12 (oF [vI 1 0,vI 0 0,vR 20,vI 5 0,vI 0 0,vR 27,vI 7 0,vI 0 0,vR 34,vI 9 0,vI 0 0,vR 41,vI 11 0,vI 0 0,vR 48,vI 13 0,vI 0 0,vR 53,vI 15 0,vI 0 0,vR 60,vI 17 0,vI 0 0,vR 67,vI 19 0,vI 0 0,vR 72,vI 22 0,vI 0 0,vR 77,vI 24 0,vI 0 0,vR 84,vI 33 0,vI 0 0,vR 89,vI 44 0,vI 0 0,vR 96,vI 46 0,vI 0 0,vR 103,vI 51 0,vI 0 0,vR 108,vI 53 0,vI 0 0,vR 115,vI 58 0,vI 0 0,vR 120,vI 64 0,vI 0 0,vR 127,vI 66 0,vI 0 0,vR 141,vI 84 0,vI 0 0,vR 174])).set 131 (fun _=>Obj.mk (vT y8) none (.cls (ClassData.mk z45 [vT y9] [vR 131,vT y9] 130 z45 true [] [vR 166,vR 192] false none false)) #[none,none,some (vS z45 315),some (vS z45 323),some (vU y10),some (vB true)]))++[oT [vR 131],fun _=>Obj.mk (vT y6) none (.fields #[vU y7,vT y8]) #[],fun P=>Obj.mk (vT y3) none (.dict #[dE (kH P z48) (vS z48 386) (vS z40 292),dE (kH P z49) (vS z49 388) (vS z66 387),dE (kH P z50) (vS z50 390) (vI 84 389),dE (kH P z55) (vS z55 398) (vR 182),dE (kH P z56) (vS z56 406) (vR 189),dE (kH P z51) (vS z51 408) (vR 190)] 6) #[],oT [],oF [vI 86 0,vI 4 0,vR 181,vI 89 0,vI 4 0,vR 188],fun _=>Obj.mk (vT y1) none (.fields #[vS z66 381,vS z66 382,vS z1 383,vI 84 0,vI 0 0,vI 0 0,vI 0 0,vI 0 0,vR 172,vB false,vI 181 0,vR 173,vN,vN,vN,vN,vI 384 0,vI 84 0,vS z1 385]) #[],fun _=>Obj.mk (vT y2) none .plain #[some (vR 174),some (vR 3),some (vR 171),none,some (vS z40 292),none,some (vR 0)],oT [],oF [],oT [vS z58 394,vS z67 395],oT [],oG z55 z68 (M 21 0),oC z55 391 z68 392 393 86 2 3 176 true 177 178 179 180 396 86 397,oH z55 z68 (M 21 0) z40 292 181,oT [],oF [],oT [vS z58 402,vS z29 403],oT [],oG z56 z69 (M 21 1),oC z56 399 z69 400 401 89 2 3 183 true 184 185 186 187 404 89 405,oH z56 z69 (M 21 1) z40 292 188,oT [vS z67 407],fun P=>Obj.mk (vT y3) none (.dict #[dE (kH P z48) (vS z48 386) (vS z40 292),dE (kH P z50) (vS z50 390) (vI 84 389),dE (kH P z55) (vS z55 398) (vR 182),dE (kH P z56) (vS z56 406) (vR 189),dE (kH P z51) (vS z51 408) (vR 190),dE (kH P z5) (vS z5 409) vN] 2) #[],fun _=>Obj.mk (vT y8) none (.cls (ClassData.mk z66 [vR 131] [vR 192,vR 131,vT y9] 191 z66 true [] [] false none false)) #[some (vR 169),none,some (vS z66 379),some (vS z66 387),some (vU y10),some (vB true)],fun _=>Obj.mk (vT y15) none (.fields #[vR 192,vR 192,vR 192]) #[],fun _=>Obj.mk (vT y6) none (.fields #[vU y16,vR 192]) #[]]
noncomputable def t4 (P:Params):BT:=bt P 10 l4
noncomputable def l5:List (Params→Obj):=(((l4.set 3 (fun P=>Obj.mk (vT y3) none (.dict #[dE (kH P z3) (vS z3 165) (vS z70 443),dE (kH P z5) (vS z5 166) vN,dE (kH P z6) (vS z6 167) vN,dE (kH P z7) (vS z7 168) (vU y4),dE (kH P z8) (vS z8 169) vN,dE (kH P z9) (vS z9 170) (vR 6),dE (kH P z10) (vS z10 171) (vR 4),dE (kH P z11) (vS z11 173) (vS z1 172),dE (kH P z12) (vS z12 174) vN,dE (kH P z13) (vS z13 193) (vR 21),dE (kH P z14) (vS z14 202) (vR 28),dE (kH P z15) (vS z15 209) (vR 35),dE (kH P z16) (vS z16 217) (vR 42),dE (kH P z17) (vS z17 224) (vR 49),dE (kH P z18) (vS z18 230) (vR 54),dE (kH P z19) (vS z19 238) (vR 61),dE (kH P z20) (vS z20 246) (vR 68),dE (kH P z21) (vS z21 252) (vR 73),dE (kH P z22) (vS z22 258) (vR 78),dE (kH P z23) (vS z23 269) (vR 85),dE (kH P z24) (vS z24 275) (vR 90),dE (kH P z25) (vS z25 283) (vR 97),dE (kH P z41) (vS z41 291) (vR 104),dE (kH P z42) (vS z42 299) (vR 109),dE (kH P z43) (vS z43 308) (vR 116),dE (kH P z44) (vS z44 314) (vR 121),dE (kH P z45) (vS z45 334) (vR 131),dE (kH P z54) (vS z54 378) (vR 166),dE (kH P z66) (vS z66 411) (vR 192),dE (kH P z71) (vS z71 442) (vR 216)] 30) #[])).set 12 (oF [vI 1 0,vI 0 0,vR 20,vI 5 0,vI 0 0,vR 27,vI 7 0,vI 0 0,vR 34,vI 9 0,vI 0 0,vR 41,vI 11 0,vI 0 0,vR 48,vI 13 0,vI 0 0,vR 53,vI 15 0,vI 0 0,vR 60,vI 17 0,vI 0 0,vR 67,vI 19 0,vI 0 0,vR 72,vI 22 0,vI 0 0,vR 77,vI 24 0,vI 0 0,vR 84,vI 33 0,vI 0 0,vR 89,vI 44 0,vI 0 0,vR 96,vI 46 0,vI 0 0,vR 103,vI 51 0,vI 0 0,vR 108,vI 53 0,vI 0 0,vR 115,vI 58 0,vI 0 0,vR 120,vI 64 0,vI 0 0,vR 127,vI 66 0,vI 0 0,vR 141,vI 84 0,vI 0 0,vR 174,vI 93 0,vI 0 0,vR 200])).set 131 (fun _=>Obj.mk (vT y8) none (.cls (ClassData.mk z45 [vT y9] [vR 131,vT y9] 130 z45 true [] [vR 166,vR 192,vR 216] false none false)) #[none,none,some (vS z45 315),some (vS z45 323),some (vU y10),some (vB true)]))++[oT [vR 131],fun _=>Obj.mk (vT y6) none (.fields #[vU y7,vT y8]) #[],fun P=>Obj.mk (vT y3) none (.dict #[dE (kH P z48) (vS z48 419) (vS z40 292),dE (kH P z49) (vS z49 421) (vS z71 420),dE (kH P z50) (vS z50 423) (vI 93 422),dE (kH P z55) (vS z55 431) (vR 208),dE (kH P z56) (vS z56 437) (vR 213),dE (kH P z51) (vS z51 439) (vR 214)] 6) #[],oT [],oF [vI 95 0,vI 4 0,vR 207,vI 98 0,vI 4 0,vR 212],fun _=>Obj.mk (vT y1) none (.fields #[vS z71 414,vS z71 415,vS z1 416,vI 93 0,vI 0 0,vI 0 0,vI 0 0,vI 0 0,vR 198,vB false,vI 181 0,vR 199,vN,vN,vN,vN,vI 417 0,vI 93 0,vS z1 418]) #[],fun _=>Obj.mk (vT y2) none .plain #[some (vR 200),some (vR 3),some (vR 197),none,some (vS z40 292),none,some (vR 0)],oT [],oF [],oT [vS z58 427,vS z72 428],oT [],oG z55 z73 (M 22 0),oC z55 424 z73 425 426 95 2 3 202 true 203 204 205 206 429 95 430,oH z55 z73 (M 22 0) z40 292 207,oT [],oF [],oG z56 z74 (M 22 1),fun _=>Obj.mk (vT y1) none (.fields #[vS z56 432,vS z74 433,vS z1 434,vI 98 0,vI 2 0,vI 0 0,vI 0 0,vI 3 0,vR 209,vB true,vI 181 0,vR 210,vN,vN,vN,vR 211,vI 435 0,vI 98 0,vS z1 436]) #[],oH z56 z74 (M 22 1) z40 292 212,oT [vS z72 438],fun P=>Obj.mk (vT y3) none (.dict #[dE (kH P z48) (vS z48 419) (vS z40 292),dE (kH P z50) (vS z50 423) (vI 93 422),dE (kH P z55) (vS z55 431) (vR 208),dE (kH P z56) (vS z56 437) (vR 213),dE (kH P z51) (vS z51 439) (vR 214),dE (kH P z5) (vS z5 440) vN] 2) #[],fun _=>Obj.mk (vT y8) none (.cls (ClassData.mk z71 [vR 131] [vR 216,vR 131,vT y9] 215 z71 true [] [] false none false)) #[some (vR 195),none,some (vS z71 412),some (vS z71 420),some (vU y10),some (vB true)],fun _=>Obj.mk (vT y15) none (.fields #[vR 216,vR 216,vR 216]) #[],fun _=>Obj.mk (vT y6) none (.fields #[vU y16,vR 216]) #[]]
noncomputable def t5 (P:Params):BT:=bt P 10 l5
noncomputable def l6:List (Params→Obj):=((l5.set 3 (fun P=>Obj.mk (vT y3) none (.dict #[dE (kH P z3) (vS z3 165) (vS z70 443),dE (kH P z5) (vS z5 166) vN,dE (kH P z6) (vS z6 167) vN,dE (kH P z7) (vS z7 168) (vU y4),dE (kH P z8) (vS z8 169) vN,dE (kH P z9) (vS z9 170) (vR 6),dE (kH P z10) (vS z10 171) (vR 4),dE (kH P z11) (vS z11 173) (vS z1 172),dE (kH P z12) (vS z12 174) vN,dE (kH P z13) (vS z13 193) (vR 21),dE (kH P z14) (vS z14 202) (vR 28),dE (kH P z15) (vS z15 209) (vR 35),dE (kH P z16) (vS z16 217) (vR 42),dE (kH P z17) (vS z17 224) (vR 49),dE (kH P z18) (vS z18 230) (vR 54),dE (kH P z19) (vS z19 238) (vR 61),dE (kH P z20) (vS z20 246) (vR 68),dE (kH P z21) (vS z21 252) (vR 73),dE (kH P z22) (vS z22 258) (vR 78),dE (kH P z23) (vS z23 269) (vR 85),dE (kH P z24) (vS z24 275) (vR 90),dE (kH P z25) (vS z25 283) (vR 97),dE (kH P z41) (vS z41 291) (vR 104),dE (kH P z42) (vS z42 299) (vR 109),dE (kH P z43) (vS z43 308) (vR 116),dE (kH P z44) (vS z44 314) (vR 121),dE (kH P z45) (vS z45 334) (vR 131),dE (kH P z54) (vS z54 378) (vR 166),dE (kH P z66) (vS z66 411) (vR 192),dE (kH P z71) (vS z71 442) (vR 216),dE (kH P z75) (vS z75 462) (vR 228),dE (kH P z76) (vS z76 478) (vR 241)] 32) #[])).set 12 (oF [vI 1 0,vI 0 0,vR 20,vI 5 0,vI 0 0,vR 27,vI 7 0,vI 0 0,vR 34,vI 9 0,vI 0 0,vR 41,vI 11 0,vI 0 0,vR 48,vI 13 0,vI 0 0,vR 53,vI 15 0,vI 0 0,vR 60,vI 17 0,vI 0 0,vR 67,vI 19 0,vI 0 0,vR 72,vI 22 0,vI 0 0,vR 77,vI 24 0,vI 0 0,vR 84,vI 33 0,vI 0 0,vR 89,vI 44 0,vI 0 0,vR 96,vI 46 0,vI 0 0,vR 103,vI 51 0,vI 0 0,vR 108,vI 53 0,vI 0 0,vR 115,vI 58 0,vI 0 0,vR 120,vI 64 0,vI 0 0,vR 127,vI 66 0,vI 0 0,vR 141,vI 84 0,vI 0 0,vR 174,vI 93 0,vI 0 0,vR 200,vI 107 0,vI 0 0,vR 224,vI 109 0,vI 0 0,vR 237]))++[oT [vT y17],fun _=>Obj.mk (vT y6) none (.fields #[vU y7,vT y8]) #[],fun P=>Obj.mk (vT y3) none (.dict #[dE (kH P z48) (vS z48 452) (vS z70 443),dE (kH P z49) (vS z49 454) (vS z75 453),dE (kH P z50) (vS z50 456) (vI 107 455),dE (kH P z51) (vS z51 457) (vR 226)] 4) #[],oT [],oF [],fun _=>Obj.mk (vT y1) none (.fields #[vS z75 447,vS z75 448,vS z1 449,vI 107 0,vI 0 0,vI 0 0,vI 0 0,vI 0 0,vR 222,vB false,vI 181 0,vR 223,vN,vN,vN,vN,vI 450 0,vI 107 0,vS z1 451]) #[],fun _=>Obj.mk (vT y2) none .plain #[some (vR 224),some (vR 3),some (vR 221),none,some (vS z70 443),none,some (vR 0)],oT [],fun P=>Obj.mk (vT y3) none (.dict #[dE (kH P z48) (vS z48 452) (vS z70 443),dE (kH P z50) (vS z50 456) (vI 107 455),dE (kH P z51) (vS z51 457) (vR 226),dE (kH P z53) (vS z53 459) (vR 229),dE (kH P z5) (vS z5 460) vN] 3) #[],fun _=>Obj.mk (vT y8) none (.cls (ClassData.mk z75 [vT y17] [vR 228,vT y17,vT y18,vT y19,vT y9] 227 z75 true [] [vR 241] false none false)) #[some (vR 219),none,some (vS z75 445),some (vS z75 453),some (vU y20),some (vB true)],fun _=>Obj.mk (vT y11) none (.fields #[vS z53 458,vR 228,vU y14,vN]) #[],fun _=>Obj.mk (vT y15) none (.fields #[vR 228,vR 228,vR 228]) #[],fun _=>Obj.mk (vT y6) none (.fields #[vU y16,vR 228]) #[],oT [vR 228],fun _=>Obj.mk (vT y6) none (.fields #[vU y7,vT y8]) #[],fun P=>Obj.mk (vT y3) none (.dict #[dE (kH P z48) (vS z48 470) (vS z70 443),dE (kH P z49) (vS z49 472) (vS z76 471),dE (kH P z50) (vS z50 474) (vI 109 473),dE (kH P z51) (vS z51 475) (vR 239)] 4) #[],oT [],oF [],fun _=>Obj.mk (vT y1) none (.fields #[vS z76 465,vS z76 466,vS z1 467,vI 109 0,vI 0 0,vI 0 0,vI 0 0,vI 0 0,vR 235,vB false,vI 181 0,vR 236,vN,vN,vN,vN,vI 468 0,vI 109 0,vS z1 469]) #[],fun _=>Obj.mk (vT y2) none .plain #[some (vR 237),some (vR 3),some (vR 234),none,some (vS z70 443),none,some (vR 0)],oT [],fun P=>Obj.mk (vT y3) none (.dict #[dE (kH P z48) (vS z48 470) (vS z70 443),dE (kH P z50) (vS z50 474) (vI 109 473),dE (kH P z51) (vS z51 475) (vR 239),dE (kH P z5) (vS z5 476) vN] 2) #[],fun _=>Obj.mk (vT y8) none (.cls (ClassData.mk z76 [vR 228] [vR 241,vR 228,vT y17,vT y18,vT y19,vT y9] 240 z76 true [] [] false none false)) #[some (vR 232),none,some (vS z76 463),some (vS z76 471),some (vU y20),some (vB true)],fun _=>Obj.mk (vT y15) none (.fields #[vR 241,vR 241,vR 241]) #[],fun _=>Obj.mk (vT y6) none (.fields #[vU y16,vR 241]) #[]]
noncomputable def t6 (P:Params):BT:=bt P 10 l6
noncomputable def l7:List (Params→Obj):=(((l6.set 3 (fun P=>Obj.mk (vT y3) none (.dict #[dE (kH P z3) (vS z3 165) (vS z77 495),dE (kH P z5) (vS z5 166) vN,dE (kH P z6) (vS z6 167) vN,dE (kH P z7) (vS z7 168) (vU y4),dE (kH P z8) (vS z8 169) vN,dE (kH P z9) (vS z9 170) (vR 6),dE (kH P z10) (vS z10 171) (vR 4),dE (kH P z11) (vS z11 173) (vS z1 172),dE (kH P z12) (vS z12 174) vN,dE (kH P z13) (vS z13 193) (vR 21),dE (kH P z14) (vS z14 202) (vR 28),dE (kH P z15) (vS z15 209) (vR 35),dE (kH P z16) (vS z16 217) (vR 42),dE (kH P z17) (vS z17 224) (vR 49),dE (kH P z18) (vS z18 230) (vR 54),dE (kH P z19) (vS z19 238) (vR 61),dE (kH P z20) (vS z20 246) (vR 68),dE (kH P z21) (vS z21 252) (vR 73),dE (kH P z22) (vS z22 258) (vR 78),dE (kH P z23) (vS z23 269) (vR 85),dE (kH P z24) (vS z24 275) (vR 90),dE (kH P z25) (vS z25 283) (vR 97),dE (kH P z41) (vS z41 291) (vR 104),dE (kH P z42) (vS z42 299) (vR 109),dE (kH P z43) (vS z43 308) (vR 116),dE (kH P z44) (vS z44 314) (vR 121),dE (kH P z45) (vS z45 334) (vR 131),dE (kH P z54) (vS z54 378) (vR 166),dE (kH P z66) (vS z66 411) (vR 192),dE (kH P z71) (vS z71 442) (vR 216),dE (kH P z75) (vS z75 462) (vR 228),dE (kH P z76) (vS z76 478) (vR 241),dE (kH P z78) (vS z78 494) (vR 253),dE (kH P z79) (vS z79 506) (vR 262),dE (kH P z80) (vS z80 512) (vR 267),dE (kH P z81) (vS z81 518) (vR 272),dE (kH P z82) (vS z82 532) (vR 279),dE (kH P z83) (vS z83 540) (vR 286)] 38) #[])).set 12 (oF [vI 1 0,vI 0 0,vR 20,vI 5 0,vI 0 0,vR 27,vI 7 0,vI 0 0,vR 34,vI 9 0,vI 0 0,vR 41,vI 11 0,vI 0 0,vR 48,vI 13 0,vI 0 0,vR 53,vI 15 0,vI 0 0,vR 60,vI 17 0,vI 0 0,vR 67,vI 19 0,vI 0 0,vR 72,vI 22 0,vI 0 0,vR 77,vI 24 0,vI 0 0,vR 84,vI 33 0,vI 0 0,vR 89,vI 44 0,vI 0 0,vR 96,vI 46 0,vI 0 0,vR 103,vI 51 0,vI 0 0,vR 108,vI 53 0,vI 0 0,vR 115,vI 58 0,vI 0 0,vR 120,vI 64 0,vI 0 0,vR 127,vI 66 0,vI 0 0,vR 141,vI 84 0,vI 0 0,vR 174,vI 93 0,vI 0 0,vR 200,vI 107 0,vI 0 0,vR 224,vI 109 0,vI 0 0,vR 237,vI 111 0,vI 0 0,vR 249,vI 114 0,vI 0 0,vR 261,vI 120 0,vI 0 0,vR 266,vI 122 0,vI 0 0,vR 271,vI 124 0,vI 0 0,vR 278,vI 138 0,vI 0 0,vR 285])).set 228 (fun _=>Obj.mk (vT y8) none (.cls (ClassData.mk z75 [vT y17] [vR 228,vT y17,vT y18,vT y19,vT y9] 227 z75 true [] [vR 241,vR 253] false none false)) #[some (vR 219),none,some (vS z75 445),some (vS z75 453),some (vU y20),some (vB true)]))++[oT [vR 228],fun _=>Obj.mk (vT y6) none (.fields #[vU y7,vT y8]) #[],fun P=>Obj.mk (vT y3) none (.dict #[dE (kH P z48) (vS z48 486) (vS z70 443),dE (kH P z49) (vS z49 488) (vS z78 487),dE (kH P z50) (vS z50 490) (vI 111 489),dE (kH P z51) (vS z51 491) (vR 251)] 4) #[],oT [],oF [],fun _=>Obj.mk (vT y1) none (.fields #[vS z78 481,vS z78 482,vS z1 483,vI 111 0,vI 0 0,vI 0 0,vI 0 0,vI 0 0,vR 247,vB false,vI 181 0,vR 248,vN,vN,vN,vN,vI 484 0,vI 111 0,vS z1 485]) #[],fun _=>Obj.mk (vT y2) none .plain #[some (vR 249),some (vR 3),some (vR 246),none,some (vS z70 443),none,some (vR 0)],oT [],fun P=>Obj.mk (vT y3) none (.dict #[dE (kH P z48) (vS z48 486) (vS z70 443),dE (kH P z50) (vS z50 490) (vI 111 489),dE (kH P z51) (vS z51 491) (vR 251),dE (kH P z5) (vS z5 492) vN] 2) #[],fun _=>Obj.mk (vT y8) none (.cls (ClassData.mk z78 [vR 228] [vR 253,vR 228,vT y17,vT y18,vT y19,vT y9] 252 z78 true [] [] false none false)) #[some (vR 244),none,some (vS z78 479),some (vS z78 487),some (vU y20),some (vB true)],fun _=>Obj.mk (vT y15) none (.fields #[vR 253,vR 253,vR 253]) #[],fun _=>Obj.mk (vT y6) none (.fields #[vU y16,vR 253]) #[],oT [],oF [],oT [vS z29 500,vS z35 501,vS z37 502,vS z33 503],oT [],oG z79 z79 (U 28),oC z79 497 z79 498 499 114 1 3 256 true 257 258 259 260 504 114 505,oH z79 z79 (U 28) z77 495 261,oT [],oF [],oG z80 z80 (U 29),fun _=>Obj.mk (vT y1) none (.fields #[vS z80 507,vS z80 508,vS z1 509,vI 120 0,vI 2 0,vI 0 0,vI 0 0,vI 3 0,vR 263,vB true,vI 181 0,vR 264,vN,vN,vN,vR 265,vI 510 0,vI 120 0,vS z1 511]) #[],oH z80 z80 (U 29) z77 495 266,oT [],oF [],oG z81 z81 (U 30),fun _=>Obj.mk (vT y1) none (.fields #[vS z81 513,vS z81 514,vS z1 515,vI 122 0,vI 2 0,vI 0 0,vI 0 0,vI 3 0,vR 268,vB true,vI 181 0,vR 269,vN,vN,vN,vR 270,vI 516 0,vI 122 0,vS z1 517]) #[],oH z81 z81 (U 30) z77 495 271,oT [],oF [],oT [vS z35 522,vS z34 523,vS z84 524,vS z46 525,vS z85 526,vS z37 527,vS z67 528,vS z38 529],oT [],oG z82 z82 (U 31),oC z82 519 z82 520 521 124 3 3 273 true 274 275 276 277 530 124 531,oH z82 z82 (U 31) z77 495 278,oT [],oF [],oT [vS z38 536,vS z39 537],oT [],oG z83 z83 (U 32),oC z83 533 z83 534 535 138 2 3 280 true 281 282 283 284 538 138 539,oH z83 z83 (U 32) z77 495 285]
noncomputable def t7 (P:Params):BT:=bt P 10 l7
noncomputable def l8:List (Params→Obj):=((l7.set 3 (fun P=>Obj.mk (vT y3) none (.dict #[dE (kH P z3) (vS z3 165) (vS z86 566),dE (kH P z5) (vS z5 166) vN,dE (kH P z6) (vS z6 167) vN,dE (kH P z7) (vS z7 168) (vU y4),dE (kH P z8) (vS z8 169) vN,dE (kH P z9) (vS z9 170) (vR 6),dE (kH P z10) (vS z10 171) (vR 4),dE (kH P z11) (vS z11 173) (vS z1 172),dE (kH P z12) (vS z12 174) vN,dE (kH P z13) (vS z13 193) (vR 21),dE (kH P z14) (vS z14 202) (vR 28),dE (kH P z15) (vS z15 209) (vR 35),dE (kH P z16) (vS z16 217) (vR 42),dE (kH P z17) (vS z17 224) (vR 49),dE (kH P z18) (vS z18 230) (vR 54),dE (kH P z19) (vS z19 238) (vR 61),dE (kH P z20) (vS z20 246) (vR 68),dE (kH P z21) (vS z21 252) (vR 73),dE (kH P z22) (vS z22 258) (vR 78),dE (kH P z23) (vS z23 269) (vR 85),dE (kH P z24) (vS z24 275) (vR 90),dE (kH P z25) (vS z25 283) (vR 97),dE (kH P z41) (vS z41 291) (vR 104),dE (kH P z42) (vS z42 299) (vR 109),dE (kH P z43) (vS z43 308) (vR 116),dE (kH P z44) (vS z44 314) (vR 121),dE (kH P z45) (vS z45 334) (vR 131),dE (kH P z54) (vS z54 378) (vR 166),dE (kH P z66) (vS z66 411) (vR 192),dE (kH P z71) (vS z71 442) (vR 216),dE (kH P z75) (vS z75 462) (vR 228),dE (kH P z76) (vS z76 478) (vR 241),dE (kH P z78) (vS z78 494) (vR 253),dE (kH P z79) (vS z79 506) (vR 262),dE (kH P z80) (vS z80 512) (vR 267),dE (kH P z81) (vS z81 518) (vR 272),dE (kH P z82) (vS z82 532) (vR 279),dE (kH P z83) (vS z83 540) (vR 286),dE (kH P z87) (vS z87 550) (vR 293),dE (kH P z88) (vS z88 558) (vR 300),dE (kH P z89) (vS z89 565) (vR 307),dE (kH P z90) (vS z90 569) (vI 8 568),dE (kH P z91) (vS z91 571) (vI 14 570),dE (kH P z92) (vS z92 579) (vR 314),dE (kH P z93) (vS z93 614) (vR 336)] 45) #[])).set 12 (oF [vI 1 0,vI 0 0,vR 20,vI 5 0,vI 0 0,vR 27,vI 7 0,vI 0 0,vR 34,vI 9 0,vI 0 0,vR 41,vI 11 0,vI 0 0,vR 48,vI 13 0,vI 0 0,vR 53,vI 15 0,vI 0 0,vR 60,vI 17 0,vI 0 0,vR 67,vI 19 0,vI 0 0,vR 72,vI 22 0,vI 0 0,vR 77,vI 24 0,vI 0 0,vR 84,vI 33 0,vI 0 0,vR 89,vI 44 0,vI 0 0,vR 96,vI 46 0,vI 0 0,vR 103,vI 51 0,vI 0 0,vR 108,vI 53 0,vI 0 0,vR 115,vI 58 0,vI 0 0,vR 120,vI 64 0,vI 0 0,vR 127,vI 66 0,vI 0 0,vR 141,vI 84 0,vI 0 0,vR 174,vI 93 0,vI 0 0,vR 200,vI 107 0,vI 0 0,vR 224,vI 109 0,vI 0 0,vR 237,vI 111 0,vI 0 0,vR 249,vI 114 0,vI 0 0,vR 261,vI 120 0,vI 0 0,vR 266,vI 122 0,vI 0 0,vR 271,vI 124 0,vI 0 0,vR 278,vI 138 0,vI 0 0,vR 285,vI 140 0,vI 0 0,vR 292,vI 143 0,vI 0 0,vR 299,vI 145 0,vI 0 0,vR 306,vI 150 0,vI 0 0,vR 313,vI 154 0,vI 0 0,vR 320]))++[oT [],oF [],oT [vS z35 544,vS z85 545,vS z38 546,vS z39 547],oT [],oG z87 z87 (U 33),oC z87 541 z87 542 543 140 3 3 287 true 288 289 290 291 548 140 549,oH z87 z87 (U 33) z77 495 292,oT [],oF [],oT [vS z35 554,vS z38 555],oT [],oG z88 z88 (U 34),oC z88 551 z88 552 553 143 2 3 294 true 295 296 297 298 556 143 557,oH z88 z88 (U 34) z77 495 299,oT [],oF [],oT [vS z39 562],oT [],oG z89 z89 (U 35),oC z89 559 z89 560 561 145 1 3 301 true 302 303 304 305 563 145 564,oH z89 z89 (U 35) z77 495 306,oT [],oF [],oT [vS z27 575,vS z67 576],oT [],oG z92 z92 (U 39),oC z92 572 z92 573 574 150 2 3 308 true 309 310 311 312 577 150 578,oH z92 z92 (U 39) z86 566 313,oT [],fun _=>Obj.mk (vT y6) none (.fields #[vU y7,vT y8]) #[],fun P=>Obj.mk (vT y3) none (.dict #[dE (kH P z48) (vS z48 587) (vS z86 566),dE (kH P z49) (vS z49 589) (vS z93 588),dE (kH P z50) (vS z50 591) (vI 154 590),dE (kH P z55) (vS z55 597) (vR 326),dE (kH P z94) (vS z94 604) (vR 333),dE (kH P z51) (vS z51 607) (vR 334)] 6) #[],oT [],oF [vI 156 0,vI 4 0,vR 325,vI 166 0,vI 4 0,vR 332],fun _=>Obj.mk (vT y1) none (.fields #[vS z93 582,vS z93 583,vS z1 584,vI 154 0,vI 0 0,vI 0 0,vI 0 0,vI 0 0,vR 318,vB false,vI 181 0,vR 319,vN,vN,vN,vN,vI 585 0,vI 154 0,vS z1 586]) #[],fun _=>Obj.mk (vT y2) none .plain #[some (vR 320),some (vR 3),some (vR 317),none,some (vS z86 566),none,some (vR 0)],oT [],oF [],oG z55 z95 (M 40 0),fun _=>Obj.mk (vT y1) none (.fields #[vS z55 592,vS z95 593,vS z1 594,vI 156 0,vI 3 0,vI 0 0,vI 0 0,vI 3 0,vR 322,vB true,vI 181 0,vR 323,vN,vN,vN,vR 324,vI 595 0,vI 156 0,vS z1 596]) #[],oH z55 z95 (M 40 0) z86 566 325,oT [],oF [],oT [vS z58 601],oT [],oG z94 z96 (M 40 1),oC z94 598 z96 599 600 166 1 3 327 true 328 329 330 331 602 166 603,oH z94 z96 (M 40 1) z86 566 332,oT [vS z97 605,vS z67 606],fun P=>Obj.mk (vT y3) none (.dict #[dE (kH P z48) (vS z48 587) (vS z86 566),dE (kH P z50) (vS z50 591) (vI 154 590),dE (kH P z55) (vS z55 597) (vR 326),dE (kH P z94) (vS z94 604) (vR 333),dE (kH P z51) (vS z51 607) (vR 334),dE (kH P z52) (vS z52 609) (vR 337),dE (kH P z53) (vS z53 611) (vR 338),dE (kH P z5) (vS z5 612) vN] 4) #[],fun _=>Obj.mk (vT y8) none (.cls (ClassData.mk z93 [vT y9] [vR 336,vT y9] 335 z93 true [] [] false none false)) #[none,none,some (vS z93 580),some (vS z93 588),some (vU y10),some (vB true)],fun _=>Obj.mk (vT y11) none (.fields #[vS z52 608,vR 336,vU y12,vU y13]) #[],fun _=>Obj.mk (vT y11) none (.fields #[vS z53 610,vR 336,vU y14,vN]) #[],fun _=>Obj.mk (vT y15) none (.fields #[vR 336,vR 336,vR 336]) #[],fun _=>Obj.mk (vT y6) none (.fields #[vU y16,vR 336]) #[]]
noncomputable def t8 (P:Params):BT:=bt P 10 l8
noncomputable def l9:List (Params→Obj):=((l8.set 3 (fun P=>Obj.mk (vT y3) none (.dict #[dE (kH P z3) (vS z3 165) (vS z98 679),dE (kH P z5) (vS z5 166) vN,dE (kH P z6) (vS z6 167) vN,dE (kH P z7) (vS z7 168) (vU y4),dE (kH P z8) (vS z8 169) vN,dE (kH P z9) (vS z9 170) (vR 6),dE (kH P z10) (vS z10 171) (vR 4),dE (kH P z11) (vS z11 173) (vS z1 172),dE (kH P z12) (vS z12 174) vN,dE (kH P z13) (vS z13 193) (vR 21),dE (kH P z14) (vS z14 202) (vR 28),dE (kH P z15) (vS z15 209) (vR 35),dE (kH P z16) (vS z16 217) (vR 42),dE (kH P z17) (vS z17 224) (vR 49),dE (kH P z18) (vS z18 230) (vR 54),dE (kH P z19) (vS z19 238) (vR 61),dE (kH P z20) (vS z20 246) (vR 68),dE (kH P z21) (vS z21 252) (vR 73),dE (kH P z22) (vS z22 258) (vR 78),dE (kH P z23) (vS z23 269) (vR 85),dE (kH P z24) (vS z24 275) (vR 90),dE (kH P z25) (vS z25 283) (vR 97),dE (kH P z41) (vS z41 291) (vR 104),dE (kH P z42) (vS z42 299) (vR 109),dE (kH P z43) (vS z43 308) (vR 116),dE (kH P z44) (vS z44 314) (vR 121),dE (kH P z45) (vS z45 334) (vR 131),dE (kH P z54) (vS z54 378) (vR 166),dE (kH P z66) (vS z66 411) (vR 192),dE (kH P z71) (vS z71 442) (vR 216),dE (kH P z75) (vS z75 462) (vR 228),dE (kH P z76) (vS z76 478) (vR 241),dE (kH P z78) (vS z78 494) (vR 253),dE (kH P z79) (vS z79 506) (vR 262),dE (kH P z80) (vS z80 512) (vR 267),dE (kH P z81) (vS z81 518) (vR 272),dE (kH P z82) (vS z82 532) (vR 279),dE (kH P z83) (vS z83 540) (vR 286),dE (kH P z87) (vS z87 550) (vR 293),dE (kH P z88) (vS z88 558) (vR 300),dE (kH P z89) (vS z89 565) (vR 307),dE (kH P z90) (vS z90 569) (vI 8 568),dE (kH P z91) (vS z91 571) (vI 14 570),dE (kH P z92) (vS z92 579) (vR 314),dE (kH P z93) (vS z93 614) (vR 336),dE (kH P z99) (vS z99 624) (vR 347),dE (kH P jF) (vS jF 634) (vR 354),dE (kH P jG) (vS jG 640) (vR 359),dE (kH P jH) (vS jH 651) (vR 366),dE (kH P jI) (vS jI 662) (vR 373),dE (kH P jJ) (vS jJ 670) (vR 380),dE (kH P jK) (vS jK 678) (vR 387),dE (kH P jL) (vS jL 688) (vR 394),dE (kH P jM) (vS jM 698) (vR 401),dE (kH P jN) (vS jN 714) (vR 408),dE (kH P jO) (vS jO 720) (vR 413),dE (kH P jP) (vS jP 730) (vR 420)] 57) #[])).set 12 (oF [vI 1 0,vI 0 0,vR 20,vI 5 0,vI 0 0,vR 27,vI 7 0,vI 0 0,vR 34,vI 9 0,vI 0 0,vR 41,vI 11 0,vI 0 0,vR 48,vI 13 0,vI 0 0,vR 53,vI 15 0,vI 0 0,vR 60,vI 17 0,vI 0 0,vR 67,vI 19 0,vI 0 0,vR 72,vI 22 0,vI 0 0,vR 77,vI 24 0,vI 0 0,vR 84,vI 33 0,vI 0 0,vR 89,vI 44 0,vI 0 0,vR 96,vI 46 0,vI 0 0,vR 103,vI 51 0,vI 0 0,vR 108,vI 53 0,vI 0 0,vR 115,vI 58 0,vI 0 0,vR 120,vI 64 0,vI 0 0,vR 127,vI 66 0,vI 0 0,vR 141,vI 84 0,vI 0 0,vR 174,vI 93 0,vI 0 0,vR 200,vI 107 0,vI 0 0,vR 224,vI 109 0,vI 0 0,vR 237,vI 111 0,vI 0 0,vR 249,vI 114 0,vI 0 0,vR 261,vI 120 0,vI 0 0,vR 266,vI 122 0,vI 0 0,vR 271,vI 124 0,vI 0 0,vR 278,vI 138 0,vI 0 0,vR 285,vI 140 0,vI 0 0,vR 292,vI 143 0,vI 0 0,vR 299,vI 145 0,vI 0 0,vR 306,vI 150 0,vI 0 0,vR 313,vI 154 0,vI 0 0,vR 320,vI 169 0,vI 0 0,vR 346,vI 172 0,vI 0 0,vR 353,vI 179 0,vI 0 0,vR 358,vI 183 0,vI 0 0,vR 365,vI 193 0,vI 0 0,vR 372,vI 199 0,vI 0 0,vR 379,vI 203 0,vI 0 0,vR 386,vI 207 0,vI 0 0,vR 393,vI 211 0,vI 0 0,vR 400,vI 214 0,vI 0 0,vR 407,vI 236 0,vI 0 0,vR 412,vI 238 0,vI 0 0,vR 419]))++[oT [],oF [],oT [vS z29 620,vS z111 621],oT [],oG z99 z99 (U 42),oC z99 617 z99 618 619 169 2 3 341 true 342 343 344 345 622 169 623,oH z99 z99 (U 42) iJ 615 346,oT [],oF [],oT [vS z29 628,vS z35 629,vS z37 630,vS z67 631],oT [],oG jF jF (U 43),oC jF 625 jF 626 627 172 1 3 348 true 349 350 351 352 632 172 633,oH jF jF (U 43) iJ 615 353,oT [],oF [],oG jG jG (U 44),fun _=>Obj.mk (vT y1) none (.fields #[vS jG 635,vS jG 636,vS z1 637,vI 179 0,vI 2 0,vI 0 0,vI 0 0,vI 3 0,vR 355,vB true,vI 181 0,vR 356,vN,vN,vN,vR 357,vI 638 0,vI 179 0,vS z1 639]) #[],oH jG jG (U 44) iJ 615 358,oT [],oF [],oT [vS z29 644,vS z59 645,vS z85 646,vS z35 647,vS z62 648],oT [],oG jH jH (U 45),oC jH 641 jH 642 643 183 1 3 360 true 361 362 363 364 649 183 650,oH jH jH (U 45) iJ 615 365,oT [],oF [],oT [vS z29 655,vS z59 656,vS z72 657,vS z62 658,vS z38 659],oT [],oG jI jI (U 46),oC jI 652 jI 653 654 193 2 3 367 true 368 369 370 371 660 193 661,oH jI jI (U 46) iJ 615 372,oT [],oF [],oT [vS z29 666,vS z67 667],oT [],oG jJ jJ (U 47),oC jJ 663 jJ 664 665 199 1 3 374 true 375 376 377 378 668 199 669,oH jJ jJ (U 47) iJ 615 379,oT [],oF [],oT [vS z29 674,vS z113 675],oT [],oG jK jK (U 48),oC jK 671 jK 672 673 203 1 3 381 true 382 383 384 385 676 203 677,oH jK jK (U 48) iJ 615 386,oT [],oF [],oT [vS z114 684,vS z115 685],oT [],oG jL jL (U 50),oC jL 681 jL 682 683 207 2 3 388 true 389 390 391 392 686 207 687,oH jL jL (U 50) z98 679 393,oT [],oF [],oT [vS z116 692,vS z115 693,vS z117 694,vS z118 695],oT [],oG jM jM (U 51),oC jM 689 jM 690 691 211 3 3 395 true 396 397 398 399 696 211 697,oH jM jM (U 51) z98 679 400,oT [],oF [],oT [vS z116 702,vS z119 703,vS z120 704,vS z121 705,vS z122 706,vS z123 707,vS z115 708,vS z124 709,vS z125 710,vS z126 711],oT [],oG jN jN (U 52),oC jN 699 jN 700 701 214 2 3 402 true 403 404 405 406 712 214 713,oH jN jN (U 52) z98 679 407,oT [],oF [],oG jO jO (U 53),fun _=>Obj.mk (vT y1) none (.fields #[vS jO 715,vS jO 716,vS z1 717,vI 236 0,vI 2 0,vI 0 0,vI 0 0,vI 3 0,vR 409,vB true,vI 181 0,vR 410,vN,vN,vN,vR 411,vI 718 0,vI 236 0,vS z1 719]) #[],oH jO jO (U 53) z98 679 412,oT [],oF [],oT [vS z127 724,vS z120 725,vS z128 726,vS z129 727],oT [],oG jP jP (U 54),oC jP 721 jP 722 723 238 2 3 414 true 415 416 417 418 728 238 729,oH jP jP (U 54) z98 679 419]
noncomputable def t9 (P:Params):BT:=bt P 10 l9
noncomputable def l10:List (Params→Obj):=((l9.set 3 (fun P=>Obj.mk (vT y3) none (.dict #[dE (kH P z3) (vS z3 165) (vS z98 679),dE (kH P z5) (vS z5 166) vN,dE (kH P z6) (vS z6 167) vN,dE (kH P z7) (vS z7 168) (vU y4),dE (kH P z8) (vS z8 169) vN,dE (kH P z9) (vS z9 170) (vR 6),dE (kH P z10) (vS z10 171) (vR 4),dE (kH P z11) (vS z11 173) (vS z1 172),dE (kH P z12) (vS z12 174) vN,dE (kH P z13) (vS z13 193) (vR 21),dE (kH P z14) (vS z14 202) (vR 28),dE (kH P z15) (vS z15 209) (vR 35),dE (kH P z16) (vS z16 217) (vR 42),dE (kH P z17) (vS z17 224) (vR 49),dE (kH P z18) (vS z18 230) (vR 54),dE (kH P z19) (vS z19 238) (vR 61),dE (kH P z20) (vS z20 246) (vR 68),dE (kH P z21) (vS z21 252) (vR 73),dE (kH P z22) (vS z22 258) (vR 78),dE (kH P z23) (vS z23 269) (vR 85),dE (kH P z24) (vS z24 275) (vR 90),dE (kH P z25) (vS z25 283) (vR 97),dE (kH P z41) (vS z41 291) (vR 104),dE (kH P z42) (vS z42 299) (vR 109),dE (kH P z43) (vS z43 308) (vR 116),dE (kH P z44) (vS z44 314) (vR 121),dE (kH P z45) (vS z45 334) (vR 131),dE (kH P z54) (vS z54 378) (vR 166),dE (kH P z66) (vS z66 411) (vR 192),dE (kH P z71) (vS z71 442) (vR 216),dE (kH P z75) (vS z75 462) (vR 228),dE (kH P z76) (vS z76 478) (vR 241),dE (kH P z78) (vS z78 494) (vR 253),dE (kH P z79) (vS z79 506) (vR 262),dE (kH P z80) (vS z80 512) (vR 267),dE (kH P z81) (vS z81 518) (vR 272),dE (kH P z82) (vS z82 532) (vR 279),dE (kH P z83) (vS z83 540) (vR 286),dE (kH P z87) (vS z87 550) (vR 293),dE (kH P z88) (vS z88 558) (vR 300),dE (kH P z89) (vS z89 565) (vR 307),dE (kH P z90) (vS z90 569) (vI 8 568),dE (kH P z91) (vS z91 571) (vI 14 570),dE (kH P z92) (vS z92 579) (vR 314),dE (kH P z93) (vS z93 614) (vR 336),dE (kH P z99) (vS z99 624) (vR 347),dE (kH P jF) (vS jF 634) (vR 354),dE (kH P jG) (vS jG 640) (vR 359),dE (kH P jH) (vS jH 651) (vR 366),dE (kH P jI) (vS jI 662) (vR 373),dE (kH P jJ) (vS jJ 670) (vR 380),dE (kH P jK) (vS jK 678) (vR 387),dE (kH P jL) (vS jL 688) (vR 394),dE (kH P jM) (vS jM 698) (vR 401),dE (kH P jN) (vS jN 714) (vR 408),dE (kH P jO) (vS jO 720) (vR 413),dE (kH P jP) (vS jP 730) (vR 420),dE (kH P z130) (vS z130 744) (vR 427),dE (kH P z131) (vS z131 750) (vR 432),dE (kH P z132) (vS z132 761) (vR 439)] 60) #[])).set 12 (oF [vI 1 0,vI 0 0,vR 20,vI 5 0,vI 0 0,vR 27,vI 7 0,vI 0 0,vR 34,vI 9 0,vI 0 0,vR 41,vI 11 0,vI 0 0,vR 48,vI 13 0,vI 0 0,vR 53,vI 15 0,vI 0 0,vR 60,vI 17 0,vI 0 0,vR 67,vI 19 0,vI 0 0,vR 72,vI 22 0,vI 0 0,vR 77,vI 24 0,vI 0 0,vR 84,vI 33 0,vI 0 0,vR 89,vI 44 0,vI 0 0,vR 96,vI 46 0,vI 0 0,vR 103,vI 51 0,vI 0 0,vR 108,vI 53 0,vI 0 0,vR 115,vI 58 0,vI 0 0,vR 120,vI 64 0,vI 0 0,vR 127,vI 66 0,vI 0 0,vR 141,vI 84 0,vI 0 0,vR 174,vI 93 0,vI 0 0,vR 200,vI 107 0,vI 0 0,vR 224,vI 109 0,vI 0 0,vR 237,vI 111 0,vI 0 0,vR 249,vI 114 0,vI 0 0,vR 261,vI 120 0,vI 0 0,vR 266,vI 122 0,vI 0 0,vR 271,vI 124 0,vI 0 0,vR 278,vI 138 0,vI 0 0,vR 285,vI 140 0,vI 0 0,vR 292,vI 143 0,vI 0 0,vR 299,vI 145 0,vI 0 0,vR 306,vI 150 0,vI 0 0,vR 313,vI 154 0,vI 0 0,vR 320,vI 169 0,vI 0 0,vR 346,vI 172 0,vI 0 0,vR 353,vI 179 0,vI 0 0,vR 358,vI 183 0,vI 0 0,vR 365,vI 193 0,vI 0 0,vR 372,vI 199 0,vI 0 0,vR 379,vI 203 0,vI 0 0,vR 386,vI 207 0,vI 0 0,vR 393,vI 211 0,vI 0 0,vR 400,vI 214 0,vI 0 0,vR 407,vI 236 0,vI 0 0,vR 412,vI 238 0,vI 0 0,vR 419,vI 247 0,vI 0 0,vR 426,vI 255 0,vI 0 0,vR 431,vI 262 0,vI 0 0,vR 438]))++[oT [],oF [],oT [vS z133 734,vS z134 735,vS z135 736,vS z136 737,vS z123 738,vS z137 739,vS z138 740,vS z139 741],oT [],oG z130 z130 (U 55),oC z130 731 z130 732 733 247 3 3 421 true 422 423 424 425 742 247 743,oH z130 z130 (U 55) z98 679 426,oT [],oF [],oG z131 z131 (U 56),fun _=>Obj.mk (vT y1) none (.fields #[vS z131 745,vS z131 746,vS z1 747,vI 255 0,vI 2 0,vI 0 0,vI 0 0,vI 3 0,vR 428,vB true,vI 181 0,vR 429,vN,vN,vN,vR 430,vI 748 0,vI 255 0,vS z1 749]) #[],oH z131 z131 (U 56) z98 679 431,oT [],oF [],oT [vS z114 754,vS z133 755,vS z140 756,vS z141 757,vS z142 758],oT [],oG z132 z132 (U 57),oC z132 751 z132 752 753 262 1 3 433 true 434 435 436 437 759 262 760,oH z132 z132 (U 57) z98 679 438]
noncomputable def t10 (P:Params):BT:=bt P 10 l10
noncomputable abbrev BB:List Stmt:=behindTheImports Pf
noncomputable abbrev EE:Env:={ scope:=Pf.main.scope,locals:=mainNs,globals:=mainNs,cells:=[],code:=.ref 13,frame:=some 14 }
theorem pc {tb:String→Option Builtin} {p:Program} {w:World} {n₀:Nat} {ann:Option Value} {env:Env} {q:Pos} {n N k m:Nat} {s s':SharedT} {r:Shared} {b:List Stmt} {c:Code} {pos p':Pos}
  (h:segRunT tb p w n₀ ann 1 n s (piecesOf ((b.drop k).take m) env c pos [topFrame q])=some (.next,s',c,p')) (K:topRun tb p w n₀ ann N s'.abs (restOf (b.drop (k+m)) env c p' [topFrame q])=some r) :
  topRun tb p w n₀ ann (n+N) s.abs (restOf (b.drop k) env c pos [topFrame q])=some r:=by
 have h2:=piece_app (rest:=b.drop (k+m)) (segRun_of h) K
 rwa [←List.drop_drop,List.take_append_drop] at h2
noncomputable def Ha (P:Params):Heap:=⟨⟨l0.map (· P)⟩,{}⟩
noncomputable def H1 (P:Params):Heap:=⟨⟨l10.map (· P)⟩,{}⟩
theorem pre (w:World) (os:OsState):topGo treeTable Pf w 11 (some (.ref 6)) 12 ⟨boot_heap w.params,⟨[]⟩,boot_drawn,boot_toks,os⟩ (topStub Pf)=some (⟨Ha w.params,⟨[]⟩,{},187,os⟩,⟨denote treeTable (.body BB EE),.body BB EE,⟨0,0,0,0⟩,[topFrame ⟨0,0,0,0⟩]⟩):=by
 rw [Fast.te15667345088766844465,Fast.te11892475500146522536,Fast.te14364793385576792824];kernel_rfl
theorem blk (w:World) (os:OsState):segRun treeTable Pf w 11 (some (.ref 6)) 1 1 ⟨Ha w.params,⟨[]⟩,{},187,os⟩ (blockOf BB EE (.body BB EE) ⟨0,0,0,0⟩ [topFrame ⟨0,0,0,0⟩])=some (.next,SharedT.abs ⟨t0 w.params,15,{},⟨[]⟩,{},187,os⟩,.body BB EE,⟨0,0,0,0⟩):=by
 rw [Fast.te14374325043358763698,Fast.te14364793385576792824];kernel_rfl
theorem q0 (w:World) (os:OsState):segRunT treeTable Pf w 11 (some (.ref 6)) 1 383 ⟨t0 w.params,15,{},⟨[]⟩,{},187,os⟩ (piecesOf ((BB.drop 0).take 14) EE (.body BB EE) ⟨0,0,0,0⟩ [topFrame ⟨0,0,0,0⟩])=some (.next,⟨t1 w.params,98,{},⟨[]⟩,{},284,os⟩,.body BB EE,⟨44,0,45,53⟩):=by
 rw [Fast.te10110043849684766642,Fast.te14364793385576792824];kernel_rfl
theorem q1 (w:World) (os:OsState):segRunT treeTable Pf w 11 (some (.ref 6)) 1 313 ⟨t1 w.params,98,{},⟨[]⟩,{},284,os⟩ (piecesOf ((BB.drop 14).take 6) EE (.body BB EE) ⟨44,0,45,53⟩ [topFrame ⟨0,0,0,0⟩])=some (.next,⟨t2 w.params,136,{},⟨[]⟩,{},335,os⟩,.body BB EE,⟨64,0,65,8⟩):=by
 rw [Fast.te10110043849684766642,Fast.te14364793385576792824];kernel_rfl
theorem q2 (w:World) (os:OsState):segRunT treeTable Pf w 11 (some (.ref 6)) 1 313 ⟨t2 w.params,136,{},⟨[]⟩,{},335,os⟩ (piecesOf ((BB.drop 20).take 1) EE (.body BB EE) ⟨64,0,65,8⟩ [topFrame ⟨0,0,0,0⟩])=some (.next,⟨t3 w.params,169,{},⟨[]⟩,{},379,os⟩,.body BB EE,⟨66,0,83,16⟩):=by
 rw [Fast.te10110043849684766642,Fast.te14364793385576792824];kernel_rfl
theorem q3 (w:World) (os:OsState):segRunT treeTable Pf w 11 (some (.ref 6)) 1 278 ⟨t3 w.params,169,{},⟨[]⟩,{},379,os⟩ (piecesOf ((BB.drop 21).take 1) EE (.body BB EE) ⟨66,0,83,16⟩ [topFrame ⟨0,0,0,0⟩])=some (.next,⟨t4 w.params,195,{},⟨[]⟩,{},412,os⟩,.body BB EE,⟨84,0,92,57⟩):=by
 rw [Fast.te10110043849684766642,Fast.te14364793385576792824];kernel_rfl
theorem q4 (w:World) (os:OsState):segRunT treeTable Pf w 11 (some (.ref 6)) 1 283 ⟨t4 w.params,195,{},⟨[]⟩,{},412,os⟩ (piecesOf ((BB.drop 22).take 2) EE (.body BB EE) ⟨84,0,92,57⟩ [topFrame ⟨0,0,0,0⟩])=some (.next,⟨t5 w.params,219,{},⟨[]⟩,{},445,os⟩,.body BB EE,⟨106,0,106,8⟩):=by
 rw [Fast.te10110043849684766642,Fast.te14364793385576792824];kernel_rfl
theorem q5 (w:World) (os:OsState):segRunT treeTable Pf w 11 (some (.ref 6)) 1 400 ⟨t5 w.params,219,{},⟨[]⟩,{},445,os⟩ (piecesOf ((BB.drop 24).take 2) EE (.body BB EE) ⟨106,0,106,8⟩ [topFrame ⟨0,0,0,0⟩])=some (.next,⟨t6 w.params,244,{},⟨[]⟩,{},479,os⟩,.body BB EE,⟨109,0,110,8⟩):=by
 rw [Fast.te10110043849684766642,Fast.te14364793385576792824];kernel_rfl
theorem q6 (w:World) (os:OsState):segRunT treeTable Pf w 11 (some (.ref 6)) 1 373 ⟨t6 w.params,244,{},⟨[]⟩,{},479,os⟩ (piecesOf ((BB.drop 26).take 7) EE (.body BB EE) ⟨109,0,110,8⟩ [topFrame ⟨0,0,0,0⟩])=some (.next,⟨t7 w.params,287,{},⟨[]⟩,{},541,os⟩,.body BB EE,⟨138,0,139,53⟩):=by
 rw [Fast.te10110043849684766642,Fast.te14364793385576792824];kernel_rfl
theorem q7 (w:World) (os:OsState):segRunT treeTable Pf w 11 (some (.ref 6)) 1 399 ⟨t7 w.params,287,{},⟨[]⟩,{},541,os⟩ (piecesOf ((BB.drop 33).take 8) EE (.body BB EE) ⟨138,0,139,53⟩ [topFrame ⟨0,0,0,0⟩])=some (.next,⟨t8 w.params,341,{},⟨[]⟩,{},615,os⟩,.body BB EE,⟨154,0,167,31⟩):=by
 rw [Fast.te10110043849684766642,Fast.te14364793385576792824];kernel_rfl
theorem q8 (w:World) (os:OsState):segRunT treeTable Pf w 11 (some (.ref 6)) 1 391 ⟨t8 w.params,341,{},⟨[]⟩,{},615,os⟩ (piecesOf ((BB.drop 41).take 14) EE (.body BB EE) ⟨154,0,167,31⟩ [topFrame ⟨0,0,0,0⟩])=some (.next,⟨t9 w.params,421,{},⟨[]⟩,{},731,os⟩,.body BB EE,⟨238,0,246,15⟩):=by
 rw [Fast.te10110043849684766642,Fast.te14364793385576792824];kernel_rfl
theorem q9 (w:World) (os:OsState):segRunT treeTable Pf w 11 (some (.ref 6)) 1 96 ⟨t9 w.params,421,{},⟨[]⟩,{},731,os⟩ (piecesOf ((BB.drop 55).take 3) EE (.body BB EE) ⟨238,0,246,15⟩ [topFrame ⟨0,0,0,0⟩])=some (.next,⟨t10 w.params,440,{},⟨[]⟩,{},762,os⟩,.body BB EE,⟨262,0,283,47⟩):=by
 rw [Fast.te10110043849684766642,Fast.te14364793385576792824];kernel_rfl
theorem fin (w:World) (os:OsState):topRun treeTable Pf w 11 (some (.ref 6)) 2 (SharedT.abs ⟨t10 w.params,440,{},⟨[]⟩,{},762,os⟩) ⟨doneF .next,.body BB EE,⟨262,0,283,47⟩,[topFrame ⟨0,0,0,0⟩]⟩=some ⟨H1 w.params,⟨[]⟩,{},762,os⟩:=by
 rw [Fast.te14082659384304107361,Fast.te14364793385576792824];kernel_rfl
theorem nil0:BB.drop 58=[]:=by kernel_rfl
theorem fin1 (w:World) (os:OsState):topRun treeTable Pf w 11 (some (.ref 6)) 2 (SharedT.abs ⟨t10 w.params,440,{},⟨[]⟩,{},762,os⟩) (restOf (BB.drop 58) EE (.body BB EE) ⟨262,0,283,47⟩ [topFrame ⟨0,0,0,0⟩])=some ⟨H1 w.params,⟨[]⟩,{},762,os⟩:=by
 rw [nil0];exact piece_nil (fin w os)
theorem run (w:World) (os:OsState):topRun treeTable Pf w 11 (some (.ref 6)) (12+(1+(383+(313+(313+(278+(283+(400+(373+(399+(391+(96+(2))))))))))))) ⟨boot_heap w.params,⟨[]⟩,boot_drawn,boot_toks,os⟩ (topStub Pf)=some ⟨H1 w.params,⟨[]⟩,{},762,os⟩:=
 go_top (pre w os) (piece_block (blk w os) (pc (q0 w os) (pc (q1 w os) (pc (q2 w os) (pc (q3 w os) (pc (q4 w os) (pc (q5 w os) (pc (q6 w os) (pc (q7 w os) (pc (q8 w os) (pc (q9 w os) (fin1 w os))))))))))))
def kp:List Nat:=[0,2,3,4,5,6,7,8,9,10,11,12,13,14,16,17,18,19,20,21,22,24,25,26,28,29,30,31,32,33,34,35,37,38,39,40,42,43,44,45,46,47,48,50,51,52,53,54,55,56,57]
def qv (p:Program):Program:={ p with main:={ p.main with body:=kp.filterMap fun i=>p.main.body[i]? } }
noncomputable abbrev QF:Program:=qv Pf
noncomputable def g (a:Nat) (P:Params):Obj:=(l10.getD a boot_o_0) P
noncomputable def KK:Params→Frag:=fun P=>(nat_lit 2,g 2 P)::(nat_lit 3,g 3 P)::(nat_lit 15,g 15 P)::(nat_lit 17,g 17 P)::(nat_lit 18,g 18 P)::(nat_lit 20,g 20 P)::(nat_lit 21,oH z13 z13 (U 0) z2 164 20 P)::(nat_lit 22,g 22 P)::(nat_lit 24,g 24 P)::(nat_lit 25,g 25 P)::(nat_lit 27,g 27 P)::(nat_lit 28,oH z14 z14 (U 2) z4 194 27 P)::(nat_lit 29,g 29 P)::(nat_lit 31,g 31 P)::(nat_lit 32,g 32 P)::(nat_lit 34,g 34 P)::(nat_lit 35,oH z15 z15 (U 3) z4 194 34 P)::(nat_lit 36,g 36 P)::(nat_lit 38,g 38 P)::(nat_lit 39,g 39 P)::(nat_lit 41,g 41 P)::(nat_lit 42,oH z16 z16 (U 4) z4 194 41 P)::(nat_lit 43,g 43 P)::(nat_lit 45,g 45 P)::(nat_lit 46,g 46 P)::(nat_lit 48,g 48 P)::(nat_lit 49,oH z17 z17 (U 5) z4 194 48 P)::(nat_lit 50,g 50 P)::(nat_lit 53,g 53 P)::(nat_lit 54,oH z18 z18 (U 6) z4 194 53 P)::(nat_lit 55,g 55 P)::(nat_lit 57,g 57 P)::(nat_lit 58,g 58 P)::(nat_lit 60,g 60 P)::(nat_lit 61,oH z19 z19 (U 7) z4 194 60 P)::(nat_lit 62,g 62 P)::(nat_lit 64,g 64 P)::(nat_lit 65,g 65 P)::(nat_lit 67,g 67 P)::(nat_lit 68,oH z20 z20 (U 8) z4 194 67 P)::(nat_lit 69,g 69 P)::(nat_lit 72,g 72 P)::(nat_lit 73,oH z21 z21 (U 9) z4 194 72 P)::(nat_lit 74,g 74 P)::(nat_lit 77,g 77 P)::(nat_lit 78,oH z22 z22 (U 10) z4 194 77 P)::(nat_lit 79,g 79 P)::(nat_lit 81,g 81 P)::(nat_lit 82,g 82 P)::(nat_lit 84,g 84 P)::(nat_lit 85,oH z23 z23 (U 11) z4 194 84 P)::(nat_lit 86,g 86 P)::(nat_lit 89,g 89 P)::(nat_lit 90,oH z24 z24 (U 12) z4 194 89 P)::(nat_lit 91,g 91 P)::(nat_lit 93,g 93 P)::(nat_lit 94,g 94 P)::(nat_lit 96,g 96 P)::(nat_lit 97,oH z25 z25 (U 13) z4 194 96 P)::(nat_lit 98,g 98 P)::(nat_lit 100,g 100 P)::(nat_lit 101,g 101 P)::(nat_lit 103,g 103 P)::(nat_lit 104,oH z41 z41 (U 14) z4 194 103 P)::(nat_lit 105,g 105 P)::(nat_lit 108,g 108 P)::(nat_lit 109,oH z42 z42 (U 16) z40 292 108 P)::(nat_lit 110,g 110 P)::(nat_lit 112,g 112 P)::(nat_lit 113,g 113 P)::(nat_lit 115,g 115 P)::(nat_lit 116,oH z43 z43 (U 17) z40 292 115 P)::(nat_lit 117,g 117 P)::(nat_lit 120,g 120 P)::(nat_lit 121,oH z44 z44 (U 18) z40 292 120 P)::(nat_lit 129,g 129 P)::(nat_lit 130,g 130 P)::(nat_lit 131,Obj.mk (vT y8) none (.cls (ClassData.mk z45 [vT y9] [vR 131,vT y9] 130 z45 true [] [vR 166,vR 192,vR 216] false none false)) #[none,none,some (vS z45 315),some (vS z45 323),some (vU y10),some (vB true)])::(nat_lit 132,g 132 P)::(nat_lit 133,g 133 P)::(nat_lit 136,g 136 P)::(nat_lit 143,g 143 P)::(nat_lit 145,g 145 P)::(nat_lit 146,g 146 P)::(nat_lit 148,g 148 P)::(nat_lit 149,oH z55 z60 (M 20 0) z40 292 148 P)::(nat_lit 150,g 150 P)::(nat_lit 152,g 152 P)::(nat_lit 153,g 153 P)::(nat_lit 155,g 155 P)::(nat_lit 156,oH z56 z64 (M 20 1) z40 292 155 P)::(nat_lit 157,g 157 P)::(nat_lit 159,g 159 P)::(nat_lit 160,g 160 P)::(nat_lit 162,g 162 P)::(nat_lit 163,oH z57 z65 (M 20 2) z40 292 162 P)::(nat_lit 164,g 164 P)::(nat_lit 165,g 165 P)::(nat_lit 166,Obj.mk (vT y8) none (.cls (ClassData.mk z54 [vR 131] [vR 166,vR 131,vT y9] 165 z54 true [] [] false none false)) #[some (vR 136),none,some (vS z54 335),some (vS z54 343),some (vU y10),some (vB true)])::(nat_lit 169,g 169 P)::(nat_lit 176,g 176 P)::(nat_lit 178,g 178 P)::(nat_lit 179,g 179 P)::(nat_lit 181,g 181 P)::(nat_lit 182,oH z55 z68 (M 21 0) z40 292 181 P)::(nat_lit 183,g 183 P)::(nat_lit 185,g 185 P)::(nat_lit 186,g 186 P)::(nat_lit 188,g 188 P)::(nat_lit 189,oH z56 z69 (M 21 1) z40 292 188 P)::(nat_lit 190,g 190 P)::(nat_lit 191,g 191 P)::(nat_lit 192,Obj.mk (vT y8) none (.cls (ClassData.mk z66 [vR 131] [vR 192,vR 131,vT y9] 191 z66 true [] [] false none false)) #[some (vR 169),none,some (vS z66 379),some (vS z66 387),some (vU y10),some (vB true)])::(nat_lit 195,g 195 P)::(nat_lit 202,g 202 P)::(nat_lit 204,g 204 P)::(nat_lit 205,g 205 P)::(nat_lit 207,g 207 P)::(nat_lit 208,oH z55 z73 (M 22 0) z40 292 207 P)::(nat_lit 209,g 209 P)::(nat_lit 212,g 212 P)::(nat_lit 213,oH z56 z74 (M 22 1) z40 292 212 P)::(nat_lit 214,g 214 P)::(nat_lit 215,g 215 P)::(nat_lit 216,Obj.mk (vT y8) none (.cls (ClassData.mk z71 [vR 131] [vR 216,vR 131,vT y9] 215 z71 true [] [] false none false)) #[some (vR 195),none,some (vS z71 412),some (vS z71 420),some (vU y10),some (vB true)])::(nat_lit 219,g 219 P)::(nat_lit 226,g 226 P)::(nat_lit 227,g 227 P)::(nat_lit 228,Obj.mk (vT y8) none (.cls (ClassData.mk z75 [vT y17] [vR 228,vT y17,vT y18,vT y19,vT y9] 227 z75 true [] [vR 241,vR 253] false none false)) #[some (vR 219),none,some (vS z75 445),some (vS z75 453),some (vU y20),some (vB true)])::(nat_lit 229,g 229 P)::(nat_lit 232,g 232 P)::(nat_lit 239,g 239 P)::(nat_lit 240,g 240 P)::(nat_lit 241,Obj.mk (vT y8) none (.cls (ClassData.mk z76 [vR 228] [vR 241,vR 228,vT y17,vT y18,vT y19,vT y9] 240 z76 true [] [] false none false)) #[some (vR 232),none,some (vS z76 463),some (vS z76 471),some (vU y20),some (vB true)])::(nat_lit 244,g 244 P)::(nat_lit 251,g 251 P)::(nat_lit 252,g 252 P)::(nat_lit 253,Obj.mk (vT y8) none (.cls (ClassData.mk z78 [vR 228] [vR 253,vR 228,vT y17,vT y18,vT y19,vT y9] 252 z78 true [] [] false none false)) #[some (vR 244),none,some (vS z78 479),some (vS z78 487),some (vU y20),some (vB true)])::(nat_lit 256,g 256 P)::(nat_lit 258,g 258 P)::(nat_lit 259,g 259 P)::(nat_lit 261,g 261 P)::(nat_lit 262,oH z79 z79 (U 28) z77 495 261 P)::(nat_lit 263,g 263 P)::(nat_lit 266,g 266 P)::(nat_lit 267,oH z80 z80 (U 29) z77 495 266 P)::(nat_lit 268,g 268 P)::(nat_lit 271,g 271 P)::(nat_lit 272,oH z81 z81 (U 30) z77 495 271 P)::(nat_lit 273,g 273 P)::(nat_lit 275,g 275 P)::(nat_lit 276,g 276 P)::(nat_lit 278,g 278 P)::(nat_lit 279,oH z82 z82 (U 31) z77 495 278 P)::(nat_lit 280,g 280 P)::(nat_lit 282,g 282 P)::(nat_lit 283,g 283 P)::(nat_lit 285,g 285 P)::(nat_lit 286,oH z83 z83 (U 32) z77 495 285 P)::(nat_lit 287,g 287 P)::(nat_lit 289,g 289 P)::(nat_lit 290,g 290 P)::(nat_lit 292,g 292 P)::(nat_lit 293,oH z87 z87 (U 33) z77 495 292 P)::(nat_lit 294,g 294 P)::(nat_lit 296,g 296 P)::(nat_lit 297,g 297 P)::(nat_lit 299,g 299 P)::(nat_lit 300,oH z88 z88 (U 34) z77 495 299 P)::(nat_lit 301,g 301 P)::(nat_lit 303,g 303 P)::(nat_lit 304,g 304 P)::(nat_lit 306,g 306 P)::(nat_lit 307,oH z89 z89 (U 35) z77 495 306 P)::(nat_lit 308,g 308 P)::(nat_lit 310,g 310 P)::(nat_lit 311,g 311 P)::(nat_lit 313,g 313 P)::(nat_lit 314,oH z92 z92 (U 39) z86 566 313 P)::(nat_lit 322,g 322 P)::(nat_lit 325,g 325 P)::(nat_lit 326,oH z55 z95 (M 40 0) z86 566 325 P)::(nat_lit 327,g 327 P)::(nat_lit 329,g 329 P)::(nat_lit 330,g 330 P)::(nat_lit 332,g 332 P)::(nat_lit 333,oH z94 z96 (M 40 1) z86 566 332 P)::(nat_lit 334,g 334 P)::(nat_lit 335,g 335 P)::(nat_lit 336,Obj.mk (vT y8) none (.cls (ClassData.mk z93 [vT y9] [vR 336,vT y9] 335 z93 true [] [] false none false)) #[none,none,some (vS z93 580),some (vS z93 588),some (vU y10),some (vB true)])::(nat_lit 337,g 337 P)::(nat_lit 338,g 338 P)::(nat_lit 341,g 341 P)::(nat_lit 343,g 343 P)::(nat_lit 344,g 344 P)::(nat_lit 346,g 346 P)::(nat_lit 347,oH z99 z99 (U 42) iJ 615 346 P)::(nat_lit 348,g 348 P)::(nat_lit 350,g 350 P)::(nat_lit 351,g 351 P)::(nat_lit 353,g 353 P)::(nat_lit 354,oH jF jF (U 43) iJ 615 353 P)::(nat_lit 355,g 355 P)::(nat_lit 358,g 358 P)::(nat_lit 359,oH jG jG (U 44) iJ 615 358 P)::(nat_lit 360,g 360 P)::(nat_lit 362,g 362 P)::(nat_lit 363,g 363 P)::(nat_lit 365,g 365 P)::(nat_lit 366,oH jH jH (U 45) iJ 615 365 P)::(nat_lit 367,g 367 P)::(nat_lit 369,g 369 P)::(nat_lit 370,g 370 P)::(nat_lit 372,g 372 P)::(nat_lit 373,oH jI jI (U 46) iJ 615 372 P)::(nat_lit 374,g 374 P)::(nat_lit 376,g 376 P)::(nat_lit 377,g 377 P)::(nat_lit 379,g 379 P)::(nat_lit 380,oH jJ jJ (U 47) iJ 615 379 P)::(nat_lit 381,g 381 P)::(nat_lit 383,g 383 P)::(nat_lit 384,g 384 P)::(nat_lit 386,g 386 P)::(nat_lit 387,oH jK jK (U 48) iJ 615 386 P)::(nat_lit 388,g 388 P)::(nat_lit 390,g 390 P)::(nat_lit 391,g 391 P)::(nat_lit 393,g 393 P)::(nat_lit 394,oH jL jL (U 50) z98 679 393 P)::(nat_lit 395,g 395 P)::(nat_lit 397,g 397 P)::(nat_lit 398,g 398 P)::(nat_lit 400,g 400 P)::(nat_lit 401,oH jM jM (U 51) z98 679 400 P)::(nat_lit 402,g 402 P)::(nat_lit 404,g 404 P)::(nat_lit 405,g 405 P)::(nat_lit 407,g 407 P)::(nat_lit 408,oH jN jN (U 52) z98 679 407 P)::(nat_lit 409,g 409 P)::(nat_lit 412,g 412 P)::(nat_lit 413,oH jO jO (U 53) z98 679 412 P)::(nat_lit 414,g 414 P)::(nat_lit 416,g 416 P)::(nat_lit 417,g 417 P)::(nat_lit 419,g 419 P)::(nat_lit 420,oH jP jP (U 54) z98 679 419 P)::(nat_lit 421,g 421 P)::(nat_lit 423,g 423 P)::(nat_lit 424,g 424 P)::(nat_lit 426,g 426 P)::(nat_lit 427,oH z130 z130 (U 55) z98 679 426 P)::(nat_lit 428,g 428 P)::(nat_lit 431,g 431 P)::(nat_lit 432,oH z131 z131 (U 56) z98 679 431 P)::(nat_lit 433,g 433 P)::(nat_lit 435,g 435 P)::(nat_lit 436,g 436 P)::(nat_lit 438,g 438 P)::(nat_lit 439,oH z132 z132 (U 57) z98 679 438 P)::[]
def ads:List Addr:=[nat_lit 2,nat_lit 3,nat_lit 15,nat_lit 17,nat_lit 18,nat_lit 20,nat_lit 21,nat_lit 22,nat_lit 24,nat_lit 25,nat_lit 27,nat_lit 28,nat_lit 29,nat_lit 31,nat_lit 32,nat_lit 34,nat_lit 35,nat_lit 36,nat_lit 38,nat_lit 39,nat_lit 41,nat_lit 42,nat_lit 43,nat_lit 45,nat_lit 46,nat_lit 48,nat_lit 49,nat_lit 50,nat_lit 53,nat_lit 54,nat_lit 55,nat_lit 57,nat_lit 58,nat_lit 60,nat_lit 61,nat_lit 62,nat_lit 64,nat_lit 65,nat_lit 67,nat_lit 68,nat_lit 69,nat_lit 72,nat_lit 73,nat_lit 74,nat_lit 77,nat_lit 78,nat_lit 79,nat_lit 81,nat_lit 82,nat_lit 84,nat_lit 85,nat_lit 86,nat_lit 89,nat_lit 90,nat_lit 91,nat_lit 93,nat_lit 94,nat_lit 96,nat_lit 97,nat_lit 98,nat_lit 100,nat_lit 101,nat_lit 103,nat_lit 104,nat_lit 105,nat_lit 108,nat_lit 109,nat_lit 110,nat_lit 112,nat_lit 113,nat_lit 115,nat_lit 116,nat_lit 117,nat_lit 120,nat_lit 121,nat_lit 129,nat_lit 130,nat_lit 131,nat_lit 132,nat_lit 133,nat_lit 136,nat_lit 143,nat_lit 145,nat_lit 146,nat_lit 148,nat_lit 149,nat_lit 150,nat_lit 152,nat_lit 153,nat_lit 155,nat_lit 156,nat_lit 157,nat_lit 159,nat_lit 160,nat_lit 162,nat_lit 163,nat_lit 164,nat_lit 165,nat_lit 166,nat_lit 169,nat_lit 176,nat_lit 178,nat_lit 179,nat_lit 181,nat_lit 182,nat_lit 183,nat_lit 185,nat_lit 186,nat_lit 188,nat_lit 189,nat_lit 190,nat_lit 191,nat_lit 192,nat_lit 195,nat_lit 202,nat_lit 204,nat_lit 205,nat_lit 207,nat_lit 208,nat_lit 209,nat_lit 212,nat_lit 213,nat_lit 214,nat_lit 215,nat_lit 216,nat_lit 219,nat_lit 226,nat_lit 227,nat_lit 228,nat_lit 229,nat_lit 232,nat_lit 239,nat_lit 240,nat_lit 241,nat_lit 244,nat_lit 251,nat_lit 252,nat_lit 253,nat_lit 256,nat_lit 258,nat_lit 259,nat_lit 261,nat_lit 262,nat_lit 263,nat_lit 266,nat_lit 267,nat_lit 268,nat_lit 271,nat_lit 272,nat_lit 273,nat_lit 275,nat_lit 276,nat_lit 278,nat_lit 279,nat_lit 280,nat_lit 282,nat_lit 283,nat_lit 285,nat_lit 286,nat_lit 287,nat_lit 289,nat_lit 290,nat_lit 292,nat_lit 293,nat_lit 294,nat_lit 296,nat_lit 297,nat_lit 299,nat_lit 300,nat_lit 301,nat_lit 303,nat_lit 304,nat_lit 306,nat_lit 307,nat_lit 308,nat_lit 310,nat_lit 311,nat_lit 313,nat_lit 314,nat_lit 322,nat_lit 325,nat_lit 326,nat_lit 327,nat_lit 329,nat_lit 330,nat_lit 332,nat_lit 333,nat_lit 334,nat_lit 335,nat_lit 336,nat_lit 337,nat_lit 338,nat_lit 341,nat_lit 343,nat_lit 344,nat_lit 346,nat_lit 347,nat_lit 348,nat_lit 350,nat_lit 351,nat_lit 353,nat_lit 354,nat_lit 355,nat_lit 358,nat_lit 359,nat_lit 360,nat_lit 362,nat_lit 363,nat_lit 365,nat_lit 366,nat_lit 367,nat_lit 369,nat_lit 370,nat_lit 372,nat_lit 373,nat_lit 374,nat_lit 376,nat_lit 377,nat_lit 379,nat_lit 380,nat_lit 381,nat_lit 383,nat_lit 384,nat_lit 386,nat_lit 387,nat_lit 388,nat_lit 390,nat_lit 391,nat_lit 393,nat_lit 394,nat_lit 395,nat_lit 397,nat_lit 398,nat_lit 400,nat_lit 401,nat_lit 402,nat_lit 404,nat_lit 405,nat_lit 407,nat_lit 408,nat_lit 409,nat_lit 412,nat_lit 413,nat_lit 414,nat_lit 416,nat_lit 417,nat_lit 419,nat_lit 420,nat_lit 421,nat_lit 423,nat_lit 424,nat_lit 426,nat_lit 427,nat_lit 428,nat_lit 431,nat_lit 432,nat_lit 433,nat_lit 435,nat_lit 436,nat_lit 438,nat_lit 439]
theorem adsE:∀ P,ads=(KK P).map (·.1):=fun P=>by kernel_rfl
noncomputable abbrev Hk:Hook:=kHook KK ads adsE
theorem k1 (w:World) (os:OsState):(staticsOk (importedModules Pf.main.body) (boot_heap w.params) (H1 w.params)&&namesBound Pf (H1 w.params)&&gensDone ⟨H1 w.params,⟨[]⟩,{},762,os⟩&&laidKept (boot_heap w.params) (H1 w.params))=true:=by
 rw [Fast.te5923862056798008813];kernel_rfl
theorem k2 (w:World) (os:OsState):openSeen QF [] (importedModules Pf.main.body) (fun s=>xlAt QF [] s&&recOk (RowW.records PySem.Challenge.rw_earworks_k03_whole_turned.row.toRowW) s) true ⟨H1 w.params,⟨[]⟩,{},762,os⟩=openGood QF []:=by
 unfold openSeen openGood
 refine looks_pair ?_ (looks_pair ?_ (looks_pair ?_ (looks_pair ?_ (looks_pair ?_ (looks_pair ?_ (looks_pair ?_ (looks_pair ?_ ?_)))))))
 ·
  rw [Fast.te5160383126252970620,Fast.te3399658132070893891,Fast.te5991557255702980513,PySem.W.R.mapR_eq];kernel_rfl
 ·
  kernel_rfl
 ·
  rw [Fast.te10880121769531294198,Fast.te821141287760084731,Fast.te3399658132070893891,Fast.te7409074990110511671,Fast.te13664370479719496447,PySem.W.R.mapR_eq,Fast.te14722251495701143533,Fast.te5923862056798008813,Fast.te10994771534591457954];kernel_rfl
 ·
  rw [Fast.te479339242167458305];kernel_rfl
 ·
  rw [Fast.te16090120013241838585,Fast.te3247288618530077131];kernel_rfl
 ·
  rw [Fast.te2386780881361962483,Fast.te821141287760084731];kernel_rfl
 ·
  rw [Fast.te11698064438423848299];kernel_rfl
 ·
  rw [Fast.te7317090234206586261];kernel_rfl
 ·
  rw [Fast.te7369524293546568484];kernel_rfl
theorem k3 (w:World) (os:OsState):Hk.obs ⟨H1 w.params,⟨[]⟩,{},762,os⟩=Hk.val w:=by kernel_rfl
theorem sz (w:World):((boot_heap w.params).isNs mainGlobals&&(⟨[]⟩ : Array GenState).size==0,(boot_heap w.params).objs.size,(boot_heap w.params).nsMap mainGlobals "__annotations__")=(true,11,some (.ref 6)):=by
 rw [Fast.te8920871248978507458,show ("__annotations__" : Str)=⟨⟨[95,95,97,110,110,111,116,97,116,105,111,110,115,95,95]⟩⟩ from Fast.ofString_ofList ['_','_','a','n','n','o','t','a','t','i','o','n','s','_','_']];kernel_rfl
theorem leftF:LeftO Pf QF [] (fun s=>xlAt QF [] s&&recOk (RowW.records PySem.Challenge.rw_earworks_k03_whole_turned.row.toRowW) s) (Hook.obs Hk) (Hook.val Hk) 6564:=
 LeftO.of_pieces (boot_open (by kernel_rfl) (by decide) (fun s=>by kernel_rfl)) sz run (by decide) fun w=>funext fun os=>looks_pair (k1 w os) (looks_pair (k2 w os) (k3 w os))
theorem ePf:PySem.Challenge.rw_earworks_k03_whole_turned.row.prog=Pf:=by
 show (PySem.Challenge.rw_earworks_k03_whole_turned.row).toRowW.1=_
 rw [Fast.te2368527892694137696,Fast.te998559690754582084]
theorem te (i:Nat):Pg.top i=U i:=by
 show (PySem.Challenge.rw_earworks_k03_whole_turned.row.prog).main.body.getD i _=_
 rw [ePf];rfl
theorem te2 (i j:Nat):inClass (Pg.top i) j=M i j:=by
 unfold M;rw [te i]
end Hx
end
set_option Elab.async false
set_option linter.all false
set_option maxRecDepth 100000
set_option maxHeartbeats 0
theorem Ew.na_mk {K:PySem.W.Frag} {C:PySem.Addr} {f:PySem.Str} (h:PySem.W.findIn K (.ref C) f=some none):L2.NoAttr K C f:=h
theorem Ew.cn_mk {K:PySem.W.Frag} {mg:PySem.Str→Option PySem.Value} {h:PySem.Heap} (KX:K.In h) (G:h.Ns PySem.mainGlobals mg) {x:PySem.Str} {z:Int} {t:PySem.Tok} (e:PySem.W.nsIn K PySem.mainGlobals x=some (some (.int z t))):∃ t,mg x=some (.int z t):=⟨t,PySem.W.mg_of KX G e⟩
open PySem PySem.W PyProof.Rows
theorem PySem.Challenge.cw_earworks_k03_whole_turned_holds : PySem.Challenge.rw_earworks_k03_whole_turned.Holds := by
 w_on;o_law
 refine holds_open (q:=(Hx.qv PySem.Challenge.rw_earworks_k03_whole_turned.row.prog)) (loose:=[]) (Xt:=(fun s=>xlAt (Hx.qv PySem.Challenge.rw_earworks_k03_whole_turned.row.prog) [] s&&recOk (RowW.records PySem.Challenge.rw_earworks_k03_whole_turned.row.toRowW) s)) (XP:=XL (Hx.qv PySem.Challenge.rw_earworks_k03_whole_turned.row.prog) []) (Yf:=Hook.obs (kHook Hx.KK Hx.ads Hx.adsE)) (Ya:=Hook.val (kHook Hx.KK Hx.ads Hx.adsE)) (YP:=Hook.says (kHook Hx.KK Hx.ads Hx.adsE)) (N:=6564) ?hl (Hook.of _) (Hook.keeps _) (fun s e=>xl_of s (Bool.and_eq_true_iff.mp e).1) XL.keeps (by rfl) (by rfl) (by rfl) (fun s e=>recFacts_of (Bool.and_eq_true_iff.mp e).2) (by rfl) (by first | assumption | decide +kernel) (by decide +kernel) ⟨rfl,rfl,rfl,rfl,rfl,by decide +kernel⟩ ?hw ?hc
 case hl=>rw [Hx.ePf];exact Hx.leftF
 case hw=>w_witness2
 k_fill
 refine L2.walk_ofK (l:=PySem.Challenge.rw_earworks_k03_whole_turned) (n:=63) (k:=7) (x:="_law_script") (CX:=L2.CX0) (sp:=Ew.spLaw) rfl (by decide) rfl ⟨rfl,by decide,by decide⟩ (fun w h Y=>PySem.W.kIn_of Y) ?F ?S ?C
 case F=>
  intro w mg fa h KX G hmg
  have T:∃ c,Nonempty (Pg.Txt (L2.KOf KX) mg c):=by
   dsimp only [L2.KOf]
   refine' Pg.Txt.go (Pg.Txt.mk (Ew.cd_mk KX G ?_ ?_ ?_ ?_ ?_) (Ew.cd_mk KX G ?_ ?_ ?_ ?_ ?_) (Ew.cd_mk KX G ?_ ?_ ?_ ?_ ?_) (Ew.cd_mk KX G ?_ ?_ ?_ ?_ ?_) (Ew.cd_mk KX G ?_ ?_ ?_ ?_ ?_) (Ew.na_mk ?_) (Ew.na_mk ?_) (Ew.na_mk ?_) (Ew.na_mk ?_) (Ew.na_mk ?_) (PySem.W.mg_none_of KX G ?_) (PySem.W.mg_none_of KX G ?_) (PySem.W.mg_none_of KX G ?_) (PySem.W.mg_none_of KX G ?_) (PySem.W.mg_none_of KX G ?_) (PySem.W.mg_none_of KX G ?_) (PySem.W.mg_none_of KX G ?_) (PySem.W.mg_none_of KX G ?_) (PySem.W.mg_none_of KX G ?_) (PySem.W.mg_none_of KX G ?_) (PySem.W.mg_none_of KX G ?_) (PySem.W.mg_none_of KX G ?_) (PySem.W.mg_none_of KX G ?_) (Ew.cn_mk KX G ?_) (Ew.cn_mk KX G ?_) (Ew.ob_mk (L2.Cls.mk ?_ ?_ ?_ ?_) ?_ ?_ ?_ ?_) (Ew.ob_mk (L2.Cls.mk ?_ ?_ ?_ ?_) ?_ ?_ ?_ ?_) (Ew.ob_mk (L2.Cls.mk ?_ ?_ ?_ ?_) ?_ ?_ ?_ ?_) (Ew.ob_mk (L2.Cls.mk ?_ ?_ ?_ ?_) ?_ ?_ ?_ ?_) (Ew.kit_sub ?_ ?_ ?_ ?_) (Ew.kit_sub ?_ ?_ ?_ ?_) (Ew.kit_sub ?_ ?_ ?_ ?_) (Ew.kit_sub ?_ ?_ ?_ ?_) (Ew.kit_sub ?_ ?_ ?_ ?_) (Ew.kit_sub ?_ ?_ ?_ ?_) (Ew.kit_sub ?_ ?_ ?_ ?_) (Ew.kit_sub ?_ ?_ ?_ ?_) (Ew.kit_sub ?_ ?_ ?_ ?_) (Ew.kit_sub ?_ ?_ ?_ ?_) (Ew.kit_sub ?_ ?_ ?_ ?_) (Ew.kit_sub ?_ ?_ ?_ ?_) (Ew.kit_sub ?_ ?_ ?_ ?_) (Ew.kit_sub ?_ ?_ ?_ ?_) (Ew.kit_sub ?_ ?_ ?_ ?_) (Ew.kit_sub ?_ ?_ ?_ ?_) ⟨?_,?_,?_,?_,?_,?_⟩ (Ew.Fd.of KX G (Ew.fx2 (Hx.te _) ?_ ?_ ?_ ?_)) (Ew.Fd.of KX G (Ew.fx2 (Hx.te _) ?_ ?_ ?_ ?_)) (Ew.Fd.of KX G (Ew.fx2 (Hx.te _) ?_ ?_ ?_ ?_)) (Ew.Fd.of KX G (Ew.fx2 (Hx.te _) ?_ ?_ ?_ ?_)) (Ew.Fd.of KX G (Ew.fx2 (Hx.te _) ?_ ?_ ?_ ?_)) (Ew.Md.of (Ew.fm2 (Hx.te2 _ _) ?_ ?_ ?_ ?_ ?_)) (Ew.Fd.of KX G (Ew.fx2 (Hx.te _) ?_ ?_ ?_ ?_)) (Ew.Fd.of KX G (Ew.fx2 (Hx.te _) ?_ ?_ ?_ ?_)) (Ew.Fd.of KX G (Ew.fx2 (Hx.te _) ?_ ?_ ?_ ?_)) (Ew.Fd.of KX G (Ew.fx2 (Hx.te _) ?_ ?_ ?_ ?_)) (Ew.Ni.of (Ew.fm2 (Hx.te2 _ _) ?_ ?_ ?_ ?_ ?_) ?_ ?_) (Ew.Ni.of (Ew.fm2 (Hx.te2 _ _) ?_ ?_ ?_ ?_ ?_) ?_ ?_) (Ew.Md.of (Ew.fm2 (Hx.te2 _ _) ?_ ?_ ?_ ?_ ?_)) (Ew.Ni.of (Ew.fm2 (Hx.te2 _ _) ?_ ?_ ?_ ?_ ?_) ?_ ?_) (Ew.Md.of (Ew.fm2 (Hx.te2 _ _) ?_ ?_ ?_ ?_ ?_)) (Ew.Fd.of KX G (Ew.fx2 (Hx.te _) ?_ ?_ ?_ ?_)) (Ew.Fd.of KX G (Ew.fx2 (Hx.te _) ?_ ?_ ?_ ?_)) (Ew.Fd.of KX G (Ew.fx2 (Hx.te _) ?_ ?_ ?_ ?_)) (Ew.Fd.of KX G (Ew.fx2 (Hx.te _) ?_ ?_ ?_ ?_)) (Ew.Fd.of KX G (Ew.fx2 (Hx.te _) ?_ ?_ ?_ ?_)) (Ew.Fd.of KX G (Ew.fx2 (Hx.te _) ?_ ?_ ?_ ?_)) (Ew.Fd.of KX G (Ew.fx2 (Hx.te _) ?_ ?_ ?_ ?_)) (Ew.Fd.of KX G (Ew.fx2 (Hx.te _) ?_ ?_ ?_ ?_)) (Ew.Fd.of KX G (Ew.fx2 (Hx.te _) ?_ ?_ ?_ ?_)) (Ew.Ni.of (Ew.fm2 (Hx.te2 _ _) ?_ ?_ ?_ ?_ ?_) ?_ ?_) (Ew.Fd.of KX G (Ew.fx2 (Hx.te _) ?_ ?_ ?_ ?_)) (Ew.Fd.of KX G (Ew.fx2 (Hx.te _) ?_ ?_ ?_ ?_)) (Ew.Fd.of KX G (Ew.fx2 (Hx.te _) ?_ ?_ ?_ ?_)) (Ew.Fd.of KX G (Ew.fx2 (Hx.te _) ?_ ?_ ?_ ?_)) (Ew.Fd.of KX G (Ew.fx2 (Hx.te _) ?_ ?_ ?_ ?_)) (Ew.Fd.of KX G (Ew.fx2 (Hx.te _) ?_ ?_ ?_ ?_)) (Ew.Fd.of KX G (Ew.fx2 (Hx.te _) ?_ ?_ ?_ ?_)) (Ew.Fd.of KX G (Ew.fx2 (Hx.te _) ?_ ?_ ?_ ?_)) (Ew.Fd.of KX G (Ew.fx2 (Hx.te _) ?_ ?_ ?_ ?_)) (Ew.Fd.of KX G (Ew.fx2 (Hx.te _) ?_ ?_ ?_ ?_)) (Ew.Fd.of KX G (Ew.fx2 (Hx.te _) ?_ ?_ ?_ ?_)) (Ew.Fd.of KX G (Ew.fx2 (Hx.te _) ?_ ?_ ?_ ?_)) (Ew.Fd.of KX G (Ew.fx2 (Hx.te _) ?_ ?_ ?_ ?_)) (Ew.Fd.of KX G (Ew.fx2 (Hx.te _) ?_ ?_ ?_ ?_)) (Ew.Fl'.of KX G (Ew.fxl2 (Hx.te _) ?_ ?_ ?_ ?_)))
   all_goals ((try dsimp only);try k_is)
   all_goals decide
  obtain ⟨c,⟨T⟩⟩:=T
  have e0:=hmg.symm.trans T.law.mgx
  have e1:fa=T.law.f:=by cases e0;rfl
  rw [e1]
  exact ⟨T.law.fd,T.law.bl,fun base kb nb=>(Pg.ok_law T).imp (Ew.spLaw_imp (Pg.law_true c T.ne _))⟩
 case S=>exact fun K H a ns hl hO hS=>⟨a,ns,rfl,hl,hS,fun _ _=>rfl⟩
 case C=>exact fun H s e s' h=>h
