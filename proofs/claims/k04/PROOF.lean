import PyProof.Rows.All
import Wide.All
import OpenK.AllK
import Wide.FinOn
import Lean
import PyProof.EqAt
import PyProof.EqKinds
import PyProof.TupleCall
import PySem.Challenge.RW_earworks_k04_whole_numbered
section
set_option Elab.async false
set_option linter.all false
set_option maxRecDepth 100000
namespace L2
open PySem PySem.Spec PyProof.Rows
abbrev Key:=Sum Int Str
def keyIs:Key→Value→Bool
 | .inl k,v=>Value.isInt k v
 | .inr x,v=>Value.isStrOf x v
def keyH (w:World):Key→Int
 | .inl k=>hashInt k
 | .inr x=>hashStr w x
theorem bD:∀ {k:Key} {v:Value},keyIs k v=true→(∃ i t,k=Sum.inl i∧v=Value.int i t)∨(∃ x t,k=Sum.inr x∧v=Value.str x t)
 | .inl i,v,h=>by
  obtain ⟨t,e⟩:=Value.isInt_shape (k:=i) (v:=v) h
  exact .inl ⟨i,t,rfl,e⟩
 | .inr x,v,h=>by
  obtain ⟨t,e⟩:=Value.isStrOf_shape (x:=x) (v:=v) h
  exact .inr ⟨x,t,rfl,e⟩
theorem key_ll (a b:Int):decide ((Sum.inl a:Key)=Sum.inl b)=(a==b):=by
 by_cases e:a=b
 ·
  subst e;simp
 ·
  have h:¬(Sum.inl a:Key)=Sum.inl b:=fun q=>e (Sum.inl.inj q)
  rw [decide_eq_false h]
  exact (beq_eq_false_iff_ne.mpr e).symm
theorem key_rr (a b:Str):decide ((Sum.inr a:Key)=Sum.inr b)=decide (a=b):=by
 by_cases e:a=b
 ·
  subst e;simp
 ·
  have h:¬(Sum.inr a:Key)=Sum.inr b:=fun q=>e (Sum.inr.inj q)
  rw [decide_eq_false h,decide_eq_false e]
theorem key_lr (a:Int) (b:Str):decide ((Sum.inl a:Key)=Sum.inr b)=false:=decide_eq_false (fun q=>nomatch q)
theorem key_rl (a:Str) (b:Int):decide ((Sum.inr a:Key)=Sum.inl b)=false:=decide_eq_false (fun q=>nomatch q)
def mixKind (prog:Program) (w:World):PySem.KeyKind prog w Key where
 is:=keyIs
 hash:=keyH w
 inj:=fun v a b ha hb=>by
  rcases bD ha with ⟨i,t,rfl,rfl⟩ | ⟨x,t,rfl,rfl⟩
  ·
   rcases bD hb with ⟨j,u,rfl,e⟩ | ⟨y,u,rfl,e⟩
   ·
    injection e with e1 _;rw [e1]
   ·
    exact nomatch e
  ·
   rcases bD hb with ⟨j,u,rfl,e⟩ | ⟨y,u,rfl,e⟩
   ·
    exact nomatch e
   ·
    injection e with e1 _;rw [e1]
 byValue:=fun k v h=>by
  rcases bD h with ⟨i,t,rfl,rfl⟩ | ⟨x,t,rfl,rfl⟩ <;> rfl
 pyHash:=fun hv h=>by
  rcases bD hv with ⟨i,t,rfl,rfl⟩ | ⟨x,t,rfl,rfl⟩
  ·
   exact wpAny_pyHash_int h
  ·
   exact wpAny_pyHash_str h
 eqBool:=fun hu hv h=>by
  rcases bD hu with ⟨i,t,rfl,rfl⟩ | ⟨x,t,rfl,rfl⟩
  ·
   rcases bD hv with ⟨j,u,rfl,rfl⟩ | ⟨y,u,rfl,rfl⟩
   ·
    rw [key_ll] at h;exact wpAny_eqBool_int h
   ·
    rw [key_lr] at h;exact SeqAt.EqAt.int_str i t y u _ _ _ _ h
  ·
   rcases bD hv with ⟨j,u,rfl,rfl⟩ | ⟨y,u,rfl,rfl⟩
   ·
    rw [key_rl] at h;exact SeqAt.EqAt.str_int x t j u _ _ _ _ h
   ·
    rw [key_rr] at h;exact wpAny_eqBool_str h
 «strs»:=fun k x t v h=>by
  rcases bD h with ⟨i,u,rfl,e⟩ | ⟨y,u,rfl,e⟩
  ·
   exact nomatch e
  ·
   injection e with e1 _
   subst e1
   cases v <;> rfl
end L2
namespace L2
open PySem PySem.Spec PyProof.Rows
inductive V where
 | non | bl (b:Bool) | int (i:Int) | str (x:Str) | byt (b:Array UInt8) | flt (b:UInt64) | ref (a:Addr) | ty (n:String)
 deriving DecidableEq
def RelV:V→Value→Prop
 | .non,u=>u=Value.none
 | .bl b,u=>u=Value.bool b
 | .int i,u=>∃ t,u=Value.int i t
 | .str x,u=>∃ t,u=Value.str x t
 | .byt b,u=>∃ t,u=Value.bytes b t
 | .flt b,u=>∃ t,u=Value.float b t
 | .ref a,u=>u=Value.ref a
 | .ty n,u=>u=Value.type n
abbrev aK:List V→List Value→Prop:=Paired RelV
theorem aK.length {xs:List V} {us:List Value} (r:aK xs us):xs.length=us.length:=Paired.length r
theorem aK.get:∀ {xs:List V} {us:List Value} {i:Nat} {x:V},aK xs us→xs[i]?=some x→∃ u,us[i]?=some u∧RelV x u
 | _,_,_,_,.nil,e=>by simp at e
 | _,_,0,_,.cons r _,e=>by simp at e;subst e;exact ⟨_,rfl,r⟩
 | _,_,i+1,x,.cons _ t,e=>by
  obtain ⟨u,h1,h2⟩:=aK.get (i:=i) (x:=x) t (by simpa using e)
  exact ⟨u,by simpa using h1,h2⟩
theorem aK.append:∀ {xs ys:List V} {us ws:List Value},aK xs us→aK ys ws→aK (xs++ys) (us++ws)
 | _,_,_,_,.nil,s=>s
 | _,_,_,_,.cons r t,s=>.cons r (aK.append t s)
theorem aK.take:∀ {xs:List V} {us:List Value} (n:Nat),aK xs us→aK (xs.take n) (us.take n)
 | _,_,0,_=>.nil
 | _,_,_+1,.nil=>.nil
 | _,_,n+1,.cons r t=>.cons r (aK.take n t)
theorem aK.drop:∀ {xs:List V} {us:List Value} (n:Nat),aK xs us→aK (xs.drop n) (us.drop n)
 | _,_,0,r=>r
 | _,_,_+1,.nil=>.nil
 | _,_,n+1,.cons _ t=>aK.drop n t
def RelO:Option V→Option Value→Prop
 | some v,some u=>RelV v u
 | none,none=>True
 | _,_=>False
def KV {κ:Type}:List (κ×V)→List (κ×Value)→Prop:=Paired fun (p:κ×V) (q:κ×Value)=>p.1=q.1∧RelV p.2 q.2
def kV:Key→V
 | .inl i=>.int i
 | .inr x=>.str x
inductive HO where
 | lst (xs:List V)
 | tup (xs:List V)
 | dK (kvs:List (Key×V)) | dT (kvs:List (List Key×V))
 | set (S:Int→Bool) (n:Nat)
 | ins (C dx:Addr) (fs:List (Str×V))
 | own (x:Addr)
 | xd (fs:List (Str×V))
 | met (f x:Addr)
 | rng (lo hi:Int)
 | frz (o:Obj) (u:HO)
 | tbl (ps:Array Value)
 | ext (φ:Heap→Prop)
abbrev Hp:=Addr→Option HO
def upd (H:Hp) (a:Addr) (o:HO):Hp:=fun b=>if b=a then some o else H b
theorem ax {H:Hp} {a:Addr} {o:HO}:upd H a o a=some o:=by unfold upd;rw [if_pos rfl]
theorem aA {H:Hp} {a b:Addr} {o:HO} (h:b≠a):upd H a o b=H b:=by unfold upd;rw [if_neg h]
theorem aN {H:Hp} {a b:Addr} {o:HO} (h:H a=some o) (h':H b=none):a≠b:=by
 intro e;subst e;rw [h] at h';cases h'
section
variable (P:Program) (w:World)
def cA (H:Hp) (h:Heap) (a:Addr):HO→Prop
 | .lst xs=>xs.length≤sizeLine∧∃ (its:List Value) (n:Nat),aK xs its∧h.get? a=some { cls:=.type "list",data:=.seq its.toArray n }
 | .tup xs=>xs.length≤sizeLine∧∃ its:List Value,aK xs its∧IsTup h a its.toArray
 | .dK kvs=>kvs.length≤sizeLine∧(a==sysModules)=false∧∃ vs,KV kvs vs∧h.DictOf (mixKind P w) a vs
 | .dT kvs=>kvs.length≤sizeLine∧(a==sysModules)=false∧∃ xs:List (List Key×Addr×Value),
  Paired (fun (p:List Key×V) (q:List Key×Addr×Value)=>p.1=q.1∧H q.2.1=some (.tup (p.1.map kV))∧RelV p.2 q.2.2) kvs xs∧
  ∃ o es ep,h.get? a=some o∧o.ExactDict∧o.data=.dict es ep∧es.toList=xs.map (entryOfKey (tupleKind (mixKind P w)))∧(xs.map (·.1)).Nodup
 | .set S n=>h.SetOf (intKind P w) a S n
 | .ins C dx fs=>H dx=some (.own a)∧fs.length≤1000∧dx≠a∧h.get? a=some (PySem.W.instObj C dx)∧
  ∃ mA,h.Ns1 dx mA∧(∀ f,RelO (fs.lookup f) (mA f))∧PySem.Within mA (fs.map (·.1))
 | .own _=>∃ o,h.get? a=some o
 | .xd fs=>∃ mA,h.Ns1 a mA∧∀ f,RelO (fs.lookup f) (mA f)
 | .rng lo hi=>∃ t u v,h.get? a=some { cls:=.type "range",data:=.fields #[.int lo t,.int hi u,.int 1 v] }
 | .frz o u=>h.get? a=some o∧cA H h a u
 | .tbl ps=>h.get? a=some { cls:=.none,data:=.fields ps }
 | .met f x=>h.get? a=some (PySem.W.methodObj (.ref f) (.ref x))
 | .ext φ=>φ h∧(∃ o,h.get? a=some o)∧∀ h1 h2:Heap,φ h1→(∀ o,h1.get? a=some o→h2.get? a=some o)→φ h2
def HOk (H:Hp) (h:Heap):Prop:=∀ a o,H a=some o→cA P w H h a o
end
section
variable {P:Program} {w:World} {H H':Hp} {h h':Heap} {a:Addr} {o:HO}
theorem cA.lt (x:cA P w H h a o):a<h.objs.size:=by
 cases o with
 | lst xs=>obtain ⟨_,_,_,_,e⟩:=x;exact Heap.lt_size e
 | tup xs=>obtain ⟨_,_,_,p⟩:=x;exact p.lt
 | dK kvs=>obtain ⟨_,_,_,_,o,_,_,e,_⟩:=x;exact Heap.lt_size e
 | dT kvs=>obtain ⟨_,_,_,_,o,_,_,e,_⟩:=x;exact Heap.lt_size e
 | set S n=>obtain ⟨o,_,_,_,e,_⟩:=x;exact Heap.lt_size e
 | ins C dx fs=>obtain ⟨_,_,_,e,_⟩:=x;exact Heap.lt_size e
 | own y=>obtain ⟨_,e⟩:=x;exact Heap.lt_size e
 | xd fs=>obtain ⟨_,⟨_,_,_,e,_⟩,_⟩:=x;exact Heap.lt_size e
 | rng lo hi=>obtain ⟨_,_,_,e⟩:=x;exact Heap.lt_size e
 | frz ob u=>obtain ⟨e,_⟩:=x;exact Heap.lt_size e
 | tbl ps=>exact Heap.lt_size (show h.get? a=some _ from x)
 | met f y=>exact Heap.lt_size (show h.get? a=some _ from x)
 | ext φ=>obtain ⟨_,⟨_,e⟩,_⟩:=x;exact Heap.lt_size e
theorem Paired.mapP {α β:Type} {F G:α→β→Prop}:∀ {l₁:List α} {l₂:List β},Paired F l₁ l₂→(∀ a b,F a b→G a b)→Paired G l₁ l₂
 | _,_,.nil,_=>.nil
 | _,_,.cons r t,f=>.cons (f _ _ r) (Paired.mapP t f)
theorem cA.stay (x:cA P w H h a o) (k:∀ b u,(b=a∨H b=some (.own a))→h.get? b=some u→h'.get? b=some u)
  (ho:∀ b,H b=some (.own a)→H' b=some (.own a)) (ht:∀ b xs,H b=some (.tup xs)→H' b=some (.tup xs)):cA P w H' h' a o:=by
 induction o with
 | lst xs=>obtain ⟨z,its,n,r,e⟩:=x;exact ⟨z,its,n,r,k _ _ (.inl rfl) e⟩
 | tup xs=>obtain ⟨z,its,r,ob,e,c⟩:=x;exact ⟨z,its,r,ob,k _ _ (.inl rfl) e,c⟩
 | dK kvs=>obtain ⟨z,y,vs,r,ob,es,ep,e,c⟩:=x;exact ⟨z,y,vs,r,ob,es,ep,k _ _ (.inl rfl) e,c⟩
 | dT kvs=>
  obtain ⟨z,y,xs,r,ob,es,ep,e,c⟩:=x
  exact ⟨z,y,xs,Paired.mapP r fun p q z=>⟨z.1,ht _ _ z.2.1,z.2.2⟩,ob,es,ep,k _ _ (.inl rfl) e,c⟩
 | set S n=>obtain ⟨ob,es,ep,t,e,c⟩:=x;exact ⟨ob,es,ep,t,k _ _ (.inl rfl) e,c⟩
 | ins C dx fs=>
  obtain ⟨d,z,ne,e,mA,⟨od,es,ep,e2,c⟩,r⟩:=x
  exact ⟨ho _ d,z,ne,k _ _ (.inl rfl) e,mA,⟨od,es,ep,k _ _ (.inr d) e2,c⟩,r⟩
 | own y=>obtain ⟨ob,e⟩:=x;exact ⟨ob,k _ _ (.inl rfl) e⟩
 | xd fs=>obtain ⟨mA,⟨od,es,ep,e,c⟩,r⟩:=x;exact ⟨mA,⟨od,es,ep,k _ _ (.inl rfl) e,c⟩,r⟩
 | rng lo hi=>obtain ⟨t,u,v,e⟩:=x;exact ⟨t,u,v,k _ _ (.inl rfl) e⟩
 | frz ob u ih=>obtain ⟨e,q⟩:=x;exact ⟨k _ _ (.inl rfl) e,ih q⟩
 | tbl ps=>
  have e:h.get? a=some { cls:=.none,data:=.fields ps }:=x
  show h'.get? a=some { cls:=.none,data:=.fields ps }
  exact k a _ (.inl rfl) e
 | met f y=>
  have e:h.get? a=some (PySem.W.methodObj (.ref f) (.ref y)):=x
  show h'.get? a=some (PySem.W.methodObj (.ref f) (.ref y))
  exact k a _ (.inl rfl) e
 | ext φ=>obtain ⟨p,⟨o,e⟩,st⟩:=x;exact ⟨st _ _ p fun o q=>k _ _ (.inl rfl) q,⟨o,k _ _ (.inl rfl) e⟩,st⟩
theorem HOk.lt (x:HOk P w H h) (e:H a=some o):a<h.objs.size:=(x a o e).lt
theorem HOk.fresh (x:HOk P w H h) (e:h.objs.size≤a):H a=none:=by
 cases q:H a with
 | none=>rfl
 | some u=>exact absurd (Nat.lt_of_lt_of_le (x.lt q) e) (Nat.lt_irrefl _)
theorem HOk.kept (x:HOk P w H h) (k:∀ b u,h.get? b=some u→h'.get? b=some u):HOk P w H h':=fun a o e=>
 (x a o e).stay (fun b u _ q=>k b u q) (fun _ q=>q) fun _ _ q=>q
theorem HOk.laid (x:HOk P w H h) (k:∀ b u,h.get? b=some u→h'.get? b=some u) (hp:h.objs.size≤a) (new:cA P w (upd H a o) h' a o):HOk P w (upd H a o) h':=fun b u e=>by
 have hn:=x.fresh hp
 by_cases hb:b=a
 ·
  subst hb;rw [ax] at e;cases e;exact new
 ·
  rw [aA hb] at e
  exact (x b u e).stay (fun c v _ q=>k c v q) (fun c q=>by rw [aA (aN q hn)];exact q) fun c xs q=>by rw [aA (aN q hn)];exact q
end
def Rd (H:Hp) (a:Addr) (u:HO):Prop:=H a=some u∨∃ o,H a=some (.frz o u)
theorem Rd.ok {P:Program} {w:World} {H:Hp} {h:Heap} {a:Addr} {u:HO} (r:Rd H a u) (x:HOk P w H h):cA P w H h a u:=by
 rcases r with r | ⟨o,r⟩
 ·
  exact x a u r
 ·
  obtain ⟨_,q⟩:=x a _ r
  exact q
def Mut:Option HO→Prop
 | some (.lst _)=>True
 | some (.dK _)=>True
 | some (.dT _)=>True
 | some (.set _ _)=>True
 | some (.ins _ _ _)=>True
 | some (.ext _)=>True
 | _=>False
section
variable {P:Program} {w:World} {H:Hp} {h h':Heap} {x e:Addr} {o':HO}
theorem HOk.write (ok:HOk P w H h) (mu:Mut (H x)) (he:e=x∨H e=some (.own x)) (k:∀ b u,b≠e→h.get? b=some u→h'.get? b=some u) (heo:∃ u,h'.get? e=some u)
  (new:cA P w (upd H x o') h' x o'):HOk P w (upd H x o') h':=fun b u q=>by
 have nown:∀ c y,H c=some (.own y)→c≠x:=fun c y r z=>by subst z;rw [r] at mu;exact mu
 have ntup:∀ c xs,H c=some (.tup xs)→c≠x:=fun c xs r z=>by subst z;rw [r] at mu;exact mu
 by_cases hb:b=x
 ·
  subst hb;rw [ax] at q;cases q;exact new
 ·
  rw [aA hb] at q
  by_cases hbe:b=e
  ·
   have q':H b=some (.own x):=by
    rcases he with z | z
    ·
     exact absurd (hbe.trans z) hb
    ·
     rw [hbe];exact z
   rw [q] at q';cases q'
   obtain ⟨v,hv⟩:=heo
   exact ⟨v,by rw [hbe];exact hv⟩
  ·
   refine (ok b u q).stay (fun c v hc r=>k c v ?_ r) (fun c r=>by rw [aA (nown c b r)];exact r) fun c xs r=>by rw [aA (ntup c xs r)];exact r
   rcases hc with rfl | hc
   ·
    exact hbe
   ·
    rintro rfl
    rcases he with z | z
    ·
     exact nown c b hc z
    ·
     rw [hc] at z;cases z;exact hb rfl
end
structure Un (fs ex:List Addr) (H H':Hp) (h h':Heap):Prop where
 keep:∀ b o,h.get? b=some o→H b=none→b∉fs→b∉ex→h'.get? b=some o
 slot:∀ b o,h.get? b=some o→H b=none→b∈fs→b∉ex→∃ sl,h'.get? b=some { o with slots:=sl }
 free:∀ b o,h.get? b=some o→H b=none→b∉ex→H' b=none
 there:∀ b o,h.get? b=some o→b∉ex→∃ o',h'.get? b=some o'
 tups:∀ b xs,H b=some (.tup xs)→H' b=some (.tup xs)
 frzs:∀ b o u,H b=some (.frz o u)→H' b=some (.frz o u)
 tbls:∀ b ps,H b=some (.tbl ps)→∃ more,H' b=some (.tbl (ps++more))
section
variable {fs fs' ex ex':List Addr} {H H1 H2:Hp} {h h1 h2 h':Heap} {a x e:Addr} {o:HO}
theorem Un.any (u:Un fs ex H H1 h h1) {b:Addr} {ob:Obj} (q:h.get? b=some ob) (n:H b=none) (hx:b∉ex):∃ sl,h1.get? b=some { ob with slots:=sl }:=by
 by_cases hb:b∈fs
 ·
  exact u.slot b ob q n hb hx
 ·
  exact ⟨ob.slots,u.keep b ob q n hb hx⟩
theorem Un.kept (k:∀ b u,h.get? b=some u→h'.get? b=some u):Un fs ex H H h h':=
 ⟨fun b ob q _ _ _=>k b ob q,fun b ob q _ _ _=>⟨ob.slots,k b ob q⟩,fun _ _ _ n _=>n,fun b ob q _=>⟨ob,k b ob q⟩,fun _ _ q=>q,fun _ _ _ q=>q,fun _ ps q=>⟨#[],by rw [q];simp⟩⟩
theorem Un.refl:Un fs ex H H h h:=Un.kept fun _ _ q=>q
theorem Un.laid (k:∀ b u,h.get? b=some u→h'.get? b=some u) (hp:h.objs.size≤a) (hn:H a=none):Un fs ex H (upd H a o) h h' where
 keep:=fun b u q _ _ _=>k b u q
 slot:=fun b u q _ _ _=>⟨u.slots,k b u q⟩
 free:=fun b u q n _=>by rw [aA (Nat.ne_of_lt (Nat.lt_of_lt_of_le (Heap.lt_size q) hp))];exact n
 there:=fun b u q _=>⟨u,k b u q⟩
 tups:=fun b xs q=>by rw [aA (aN q hn)];exact q
 frzs:=fun b u xs q=>by rw [aA (aN q hn)];exact q
 tbls:=fun b ps q=>⟨#[],by rw [aA (aN q hn),q];simp⟩
theorem Un.write (mu:Mut (H x)) (he:e=x∨H e=some (.own x)) (k:∀ b u,b≠e→h.get? b=some u→h'.get? b=some u) (heo:∃ u,h'.get? e=some u):Un fs ex H (upd H x o) h h':=by
 have hx:∀ b,H b=none→b≠x:=fun b n z=>by subst z;rw [n] at mu;exact mu
 have hb:∀ b,H b=none→b≠e:=fun b n z=>by
  subst z
  rcases he with r | r
  ·
   exact hx b n r
  ·
   rw [n] at r;cases r
 have hm:∀ b u,H b=some u→¬Mut (some u)→b≠x:=fun b u q nm z=>by subst z;rw [q] at mu;exact nm mu
 refine ⟨fun b u q n _ _=>k b u (hb b n) q,fun b u q n _ _=>⟨u.slots,k b u (hb b n) q⟩,fun b u q n _=>by rw [aA (hx b n)];exact n,fun b u q _=>?_,
  fun b xs q=>by rw [aA (hm b _ q fun z=>z)];exact q,fun b u xs q=>by rw [aA (hm b _ q fun z=>z)];exact q,fun b ps q=>⟨#[],by rw [aA (hm b _ q fun z=>z),q];simp⟩⟩
 by_cases hbe:b=e
 ·
  subst hbe;exact heo
 ·
  exact ⟨u,k b u hbe q⟩
end
def trk (h:Heap) (H:Hp):List Addr:=(List.range h.objs.size).filter fun a=>(H a).isSome
def hidT (h:Heap) (H:Hp):Heap:=PySem.W.hideAll h (trk h H)
theorem hidT_size (h:Heap) (H:Hp):(hidT h H).objs.size=h.objs.size:=PySem.W.hideAll_size _ _
theorem hidT_get {h:Heap} {H:Hp} {b:Addr} {o:Obj} (e:h.get? b=some o) (n:H b=none):(hidT h H).get? b=some o:=
 PySem.W.hideAll_get _ e fun hm=>by
  have q:(H b).isSome=true:=(List.mem_filter.mp hm).2
  rw [n] at q;simp at q
theorem of_hidT {h:Heap} {H:Hp} {b:Addr} {o:Obj} (e:(hidT h H).get? b=some o):h.get? b=some o∧H b=none:=by
 have e':h.get? b=some o:=PySem.W.of_hideAll (trk h H) e
 refine ⟨e',?_⟩
 cases q:H b with
 | none=>rfl
 | some x=>
  have hm:b∈trk h H:=List.mem_filter.mpr ⟨List.mem_range.mpr (Heap.lt_size e'),by simp [q]⟩
  have z:(hidT h H).get? b=none:=PySem.W.hideAll_none (trk h H) hm
  rw [z] at e;cases e
end L2
namespace L2
open PySem PySem.Spec PyProof.Rows
structure Mod (K:PySem.W.Frag) (mg:Str→Option Value) (base:Heap):Prop where
 kin:K.In base
 glob:base.Ns mainGlobals mg
 blt:∃ mb,base.Ns builtinsNs mb∧∀ x:Str,x≠"__name__"→mb x=bootBuiltins x
 nolimit:base.NoLimit
structure Cx where
 prog:Program
 w:World
 K:PySem.W.Frag
 mg:Str→Option Value
 base:Heap
 A:Around
 N:List Str
 s₀:Shared
 H₀:Hp
 env:Env
 outer:List Env
 stack:List Env
 ex:List Addr
 fn:Str→Bool
 calm:Bool
 pn:List (Addr×Obj)
 xe:Value→Shared→Prop
def frs (l:List Env):List Addr:=l.filterMap (·.frame)
abbrev Cx.fs (X:Cx):List Addr:=frs X.outer
def Vis (sc:Scope) (x:Str):Prop:=sc.names.lookup x=some .local∨sc.names.lookup x=some .cell∨sc.names.lookup x=some .free
def Loc (sc:Scope) (x:Str):Prop:=sc.names.lookup x=some .local∨sc.names.lookup x=some .cell
def Look (env:Env) (h:Heap) (m:Str→Option Value) (x:Str) (u:Value):Prop:=
 (env.kindOf x=some .local∧m x=some u)∨((env.kindOf x=some .cell∨env.kindOf x=some .free)∧∃ c,env.cells.lookup x=some c∧h.IsCell c (some u))
structure Cx.Ok (X:Cx):Prop where
 mod:Mod X.K X.mg X.base
 kind:X.env.scope.kind=.function
 glob:X.env.globals=mainGlobals
 blt:X.env.builtins=builtinsNs
 above:X.s₀.heap.objs.size≤X.env.locals
 inj:∀ x y c,X.env.cells.lookup x=some c→X.env.cells.lookup y=some c→x=y
 has:∀ x,(X.env.kindOf x=some .cell∨X.env.kindOf x=some .free)→∃ c,X.env.cells.lookup x=some c
 cab:∀ x c,X.fn x=true→X.env.cells.lookup x=some c→X.s₀.heap.objs.size≤c
 hd:X.calm=true→X.A.handled=none
 frames:X.A.frames=some X.stack
 stk:X.stack=X.outer∨(X.stack=X.env::X.outer∧X.env.frame=some X.env.locals)
 exf:∀ b∈X.ex,b≠X.env.locals∧∀ x c,X.env.cells.lookup x=some c→c≠b
 bs:∀ b o,X.base.get? b=some o→X.s₀.heap.get? b=some o∧X.H₀ b=none
 bsz:X.base.objs.size≤X.s₀.heap.objs.size
 noex:∀ b o,X.base.get? b=some o→b∉X.ex
 exfs:∀ b∈X.ex,b∉X.fs
 funs:X.s₀.heap.FunFrames X.base X.outer
 frf:∀ b∈X.fs,X.H₀ b=none
structure Inv (X:Cx) (pins:List (Addr×Obj)) (σ:List (Option V)) (H:Hp) (s:Shared):Prop where
 ok:X.Ok
 os:s.os=X.s₀.os
 bare:AllBare s.gens
 base:Un X.fs X.ex X.H₀ H X.s₀.heap s.heap
 loc:∃ m,s.heap.Ns X.env.locals m∧∀ (i:Nat) (x:Str) (v:V),X.N[i]?=some x→σ[i]?=some (some v)→Vis X.env.scope x→∃ u,RelV v u∧Look X.env s.heap m x u
 cell:∀ x c,X.env.cells.lookup x=some c→∃ v,s.heap.IsCell c v
 free:H X.env.locals=none
 freeC:∀ x c,X.env.cells.lookup x=some c→H c=none
 pin:∀ p∈X.pn++pins,s.heap.get? p.1=some p.2∧H p.1=none∧p.1≠X.env.locals∧p.1∉X.fs∧∀ v,p.2.data≠.cell v
 hok:HOk X.prog X.w H s.heap
 len:σ.length=X.N.length
section
variable {X:Cx} {pins:List (Addr×Obj)} {σ:List (Option V)} {H H':Hp} {s:Shared} {h':Heap}
theorem Cx.Ok.nofr (ok:X.Ok) {b:Addr} {o:Obj} (e:X.base.get? b=some o):b∉X.fs:=fun hb=>by
 have:=(ok.funs.mem hb).1
 rw [e] at this;cases this
theorem Inv.bs (I:Inv X pins σ H s):∀ b o,X.base.get? b=some o→s.heap.get? b=some o∧H b=none:=fun b o e=>
 ⟨I.base.keep b o (I.ok.bs b o e).1 (I.ok.bs b o e).2 (I.ok.nofr e) (I.ok.noex b o e),I.base.free b o (I.ok.bs b o e).1 (I.ok.bs b o e).2 (I.ok.noex b o e)⟩
theorem Inv.bk (I:Inv X pins σ H s):∀ b o,X.base.get? b=some o→s.heap.get? b=some o:=fun b o e=>(I.bs b o e).1
theorem Inv.mod (I:Inv X pins σ H s):Mod X.K X.mg X.base:=I.ok.mod
theorem Inv.kIn (I:Inv X pins σ H s):X.K.In s.heap:=I.ok.mod.kin.keeps I.bk
theorem Inv.lt (I:Inv X pins σ H s):X.env.locals<s.heap.objs.size:=let ⟨_,hn,_⟩:=I.loc;hn.lt
theorem Inv.sz (I:Inv X pins σ H s):X.s₀.heap.objs.size≤s.heap.objs.size:=Nat.le_trans I.ok.above (Nat.le_of_lt I.lt)
theorem Inv.nofs (I:Inv X pins σ H s) {a:Addr} (h:s.heap.objs.size≤a):a∉X.fs:=fun hb=>by
 obtain ⟨_,o,ho,_⟩:=I.ok.funs.mem hb
 exact absurd (Nat.lt_of_lt_of_le (Heap.lt_size ho) (Nat.le_trans I.sz h)) (Nat.lt_irrefl _)
theorem Inv.cne (I:Inv X pins σ H s):∀ x c,X.env.cells.lookup x=some c→c≠X.env.locals:=fun x c e z=>by
 obtain ⟨v,o,ho,hd⟩:=I.cell x c e
 obtain ⟨m,⟨o',es,ep,ho',hd',_⟩,_⟩:=I.loc
 rw [z,ho'] at ho;cases ho;rw [hd'] at hd;cases hd
theorem Inv.funs (I:Inv X pins σ H s):s.heap.FunFrames X.base X.outer:=by
 have all:∀ (l:List Env),(∀ b∈frs l,b∈X.fs)→X.s₀.heap.FunFrames X.base l→s.heap.FunFrames X.base l:=by
  intro l
  induction l with
  | nil=>intro _ _;trivial
  | cons env r ih=>
   intro hs hl
   obtain ⟨hk,⟨L,o,hf,hn,ho,hd⟩,hr⟩:=hl
   have hL:L∈X.fs:=hs L (by unfold frs;rw [List.filterMap_cons,hf];exact List.mem_cons_self)
   obtain ⟨sl,e⟩:=I.base.slot L o ho (I.ok.frf L hL) hL fun z=>I.ok.exfs L z hL
   exact ⟨hk,⟨L,_,hf,hn,e,hd⟩,ih (fun b hb=>hs b (by unfold frs;rw [List.filterMap_cons,hf];exact List.mem_cons_of_mem _ hb)) hr⟩
 exact all X.outer (fun _ hb=>hb) I.ok.funs
theorem Inv.stack (I:Inv X pins σ H s):s.heap.FunFrames X.base X.stack:=by
 rcases I.ok.stk with e | ⟨e,hf⟩
 ·
  rw [e];exact I.funs
 ·
  rw [e]
  obtain ⟨m,hn,_⟩:=I.loc
  refine .cons (by rw [I.ok.kind];decide) hf hn ?_ I.funs
  exact Heap.get?_none_of_le (Nat.le_trans I.ok.bsz I.ok.above)
theorem Inv.stkSub (I:Inv X pins σ H s):∀ b∈frs X.stack,b∈X.env.locals::X.fs:=fun b hb=>by
 rcases I.ok.stk with e | ⟨e,hf⟩
 ·
  rw [e] at hb;exact List.mem_cons_of_mem _ hb
 ·
  rw [e] at hb
  unfold frs at hb
  rw [List.filterMap_cons,hf] at hb
  exact hb
theorem Inv.stkFree (I:Inv X pins σ H s):∀ b∈frs X.stack,H b=none:=fun b hb=>by
 rcases List.mem_cons.mp (I.stkSub b hb) with e | hb
 ·
  rw [e];exact I.free
 ·
  obtain ⟨_,o,ho,_⟩:=I.ok.funs.mem hb
  exact I.base.free b o ho (I.ok.frf b hb) fun z=>I.ok.exfs b z hb
theorem Inv.step {g':Array GenState} {t':Nat} {d':Drawn} {ch:List Addr} (I:Inv X pins σ H s)
  (hch:∀ b∈ch,(b∈X.ex∨X.s₀.heap.objs.size≤b)∧b≠X.env.locals∧(∀ x c,X.env.cells.lookup x=some c→c≠b)∧∀ p∈X.pn++pins,p.1≠b)
  (keep:∀ b o,b≠X.env.locals→b∉X.fs→b∉ch→s.heap.get? b=some o→H b=none→h'.get? b=some o)
  (slot:∀ b o,b≠X.env.locals→b∈X.fs→b∉ch→s.heap.get? b=some o→H b=none→∃ sl,h'.get? b=some { o with slots:=sl }) (free:∀ b o,b∉ch→s.heap.get? b=some o→H b=none→H' b=none)
  (there:∀ b o,b∉ch→s.heap.get? b=some o→∃ o',h'.get? b=some o')
  (tups:∀ b xs,H b=some (.tup xs)→H' b=some (.tup xs)) (frzs:∀ b o u,H b=some (.frz o u)→H' b=some (.frz o u)) (tbls:∀ b ps,H b=some (.tbl ps)→∃ more,H' b=some (.tbl (ps++more)))
  (ns:∀ m,s.heap.Ns X.env.locals m→h'.Ns X.env.locals m) (hok:HOk X.prog X.w H' h') (hg:AllBare g') :
  Inv X pins σ H' { s with heap:=h',gens:=g',drawn:=d',toks:=t' }:=by
 have neL:∀ b o,X.s₀.heap.get? b=some o→b≠X.env.locals:=fun b o e=>Nat.ne_of_lt (Nat.lt_of_lt_of_le (Heap.lt_size e) I.ok.above)
 have neC:∀ b o,X.s₀.heap.get? b=some o→b∉X.ex→b∉ch:=fun b o e hx hb=>by
  rcases (hch b hb).1 with z | z
  ·
   exact hx z
  ·
   exact absurd (Nat.lt_of_lt_of_le (Heap.lt_size e) z) (Nat.lt_irrefl _)
 have cellK:∀ x c,X.env.cells.lookup x=some c→∀ v,s.heap.IsCell c v→h'.IsCell c v:=fun x c e v ⟨o,ho,hd⟩=>by
  have nch:c∉ch:=fun z=>(hch c z).2.2.1 x c e rfl
  by_cases hc:c∈X.fs
  ·
   obtain ⟨sl,q⟩:=slot c o (I.cne x c e) hc nch ho (I.freeC x c e)
   exact ⟨_,q,hd⟩
  ·
   exact ⟨o,keep c o (I.cne x c e) hc nch ho (I.freeC x c e),hd⟩
 refine ⟨I.ok,I.os,hg,⟨fun b o e n hb hx=>?_,fun b o e n hb hx=>?_,fun b o e n hx=>?_,fun b o e hx=>?_,fun b xs e=>tups b xs (I.base.tups b xs e),fun b o xs e=>frzs b o xs (I.base.frzs b o xs e),fun b ps e=>?_⟩,?_,fun x c e=>?_,?_,fun x c e=>?_,fun p hp=>?_,hok,I.len⟩
 ·
  exact keep b o (neL b o e) hb (neC b o e hx) (I.base.keep b o e n hb hx) (I.base.free b o e n hx)
 ·
  obtain ⟨sl,e1⟩:=I.base.slot b o e n hb hx
  obtain ⟨sl',e2⟩:=slot b _ (neL b o e) hb (neC b o e hx) e1 (I.base.free b o e n hx)
  exact ⟨sl',e2⟩
 ·
  obtain ⟨o',e1⟩:=I.base.there b o e hx
  exact free b o' (neC b o e hx) e1 (I.base.free b o e n hx)
 ·
  obtain ⟨o',e1⟩:=I.base.there b o e hx
  exact there b o' (neC b o e hx) e1
 ·
  obtain ⟨m1,e1⟩:=I.base.tbls b ps e
  obtain ⟨m2,e2⟩:=tbls b _ e1
  exact ⟨m1++m2,by rw [e2,Array.append_assoc]⟩
 ·
  obtain ⟨m,hn,hl⟩:=I.loc
  refine ⟨m,ns m hn,fun i x v e1 e2 e3=>?_⟩
  obtain ⟨u,r,l⟩:=hl i x v e1 e2 e3
  refine ⟨u,r,?_⟩
  rcases l with l | ⟨k,c,e,z⟩
  ·
   exact .inl l
  ·
   exact .inr ⟨k,c,e,cellK x c e _ z⟩
 ·
  obtain ⟨v,z⟩:=I.cell x c e
  exact ⟨v,cellK x c e v z⟩
 ·
  obtain ⟨m,⟨o,_,_,ho,_⟩,_⟩:=I.loc
  exact free _ o (fun z=>(hch _ z).2.1 rfl) ho I.free
 ·
  obtain ⟨v,o,ho,hd⟩:=I.cell x c e
  exact free c o (fun z=>(hch c z).2.2.1 x c e rfl) ho (I.freeC x c e)
 ·
  obtain ⟨e,n,ne,nf,d⟩:=I.pin p hp
  have nch:p.1∉ch:=fun z=>(hch p.1 z).2.2.2 p hp rfl
  exact ⟨keep p.1 p.2 ne nf nch e n,free p.1 p.2 nch e n,ne,nf,d⟩
theorem Inv.un {t':Nat} (I:Inv X pins σ H s) (u:Un X.fs [] H H' s.heap h') (hok:HOk X.prog X.w H' h'):Inv X pins σ H' { s with heap:=h',toks:=t' }:=by
 obtain ⟨m,⟨o,es,ep,ho,r⟩,_⟩:=id I.loc
 obtain ⟨sl,hL⟩:=u.any ho I.free (by simp)
 exact I.step (g':=s.gens) (d':=s.drawn) (ch:=[]) (fun _ z=>nomatch z) (fun b o _ hb _ e n=>u.keep b o e n hb (by simp)) (fun b o _ hb _ e n=>u.slot b o e n hb (by simp)) (fun b o _ e n=>u.free b o e n (by simp)) (fun b o _ e=>u.there b o e (by simp)) u.tups u.frzs u.tbls (fun m' hm=>by
  obtain ⟨o',es',ep',ho',r'⟩:=hm
  rw [ho] at ho';cases ho'
  exact ⟨_,es',ep',hL,r'⟩) hok I.bare
theorem Inv.call {g':Array GenState} {t':Nat} {d':Drawn} {ch:List Addr} (I:Inv X pins σ H s) (u:Un (frs X.stack) ch H H' s.heap h') (hok:HOk X.prog X.w H' h') (hg:AllBare g')
  (hch:∀ b∈ch,(b∈X.ex∨X.s₀.heap.objs.size≤b)∧b≠X.env.locals∧(∀ x c,X.env.cells.lookup x=some c→c≠b)∧∀ p∈X.pn++pins,p.1≠b) :
  Inv X pins σ H' { s with heap:=h',gens:=g',drawn:=d',toks:=t' }:=by
 obtain ⟨m,⟨o,es,ep,ho,r⟩,_⟩:=id I.loc
 obtain ⟨sl,hL⟩:=u.any ho I.free fun z=>(hch _ z).2.1 rfl
 exact I.step (ch:=ch) hch (fun b o hL hb hc e n=>u.keep b o e n (fun z=>(List.mem_cons.mp (I.stkSub b z)).elim hL hb) hc) (fun b o _ _ hc e n=>u.any e n hc) (fun b o hc e n=>u.free b o e n hc) (fun b o hc e=>u.there b o e hc) u.tups u.frzs u.tbls (fun m' hm=>by
  obtain ⟨o',es',ep',ho',r'⟩:=hm
  rw [ho] at ho';cases ho'
  exact ⟨_,es',ep',hL,r'⟩) hok hg
theorem Inv.turned {t':Nat} {it:Addr} (I:Inv X pins σ H s) (k:∀ b o,b≠it→s.heap.get? b=some o→h'.get? b=some o) (hn:H it=none) (hL:it≠X.env.locals)
  (h1:it∈X.ex∨X.s₀.heap.objs.size≤it) (h2:∀ x c,X.env.cells.lookup x=some c→c≠it) (h3:∀ p∈X.pn++pins,p.1≠it):Inv X pins σ H { s with heap:=h',toks:=t' }:=by
 have nit:∀ b u,H b=some u→b≠it:=fun b u e z=>by rw [z,hn] at e;cases e
 refine I.step (g':=s.gens) (d':=s.drawn) (ch:=[it]) (fun b hb=>?_) (fun b o _ _ hc e _=>k b o (fun z=>hc (by simp [z])) e) (fun b o _ _ hc e _=>⟨o.slots,k b o (fun z=>hc (by simp [z])) e⟩) (fun _ _ _ _ n=>n)
  (fun b o hc e=>⟨o,k b o (fun z=>hc (by simp [z])) e⟩) (fun _ _ e=>e) (fun _ _ _ e=>e) (fun b ps e=>⟨#[],by rw [e];simp⟩) (fun m hm=>?_) (fun b u e=>?_) I.bare
 ·
  have e:b=it:=by simpa using hb
  subst e
  exact ⟨h1,hL,h2,h3⟩
 ·
  obtain ⟨o,es,ep,ho,r⟩:=hm
  exact ⟨o,es,ep,k _ o (Ne.symm hL) ho,r⟩
 ·
  refine (I.hok b u e).stay (fun c v hc q=>k c v ?_ q) (fun _ q=>q) fun _ _ q=>q
  rcases hc with z | z
  ·
   rw [z];exact nit b u e
  ·
   exact nit c _ z
theorem Inv.tok (I:Inv X pins σ H s) (t:Nat):Inv X pins σ H { s with toks:=t }:=I.un (h':=s.heap) (t':=t) Un.refl I.hok
theorem Inv.kept {t':Nat} (I:Inv X pins σ H s) (k:∀ b u,s.heap.get? b=some u→h'.get? b=some u):Inv X pins σ H { s with heap:=h',toks:=t' }:=I.un (Un.kept k) (I.hok.kept k)
theorem Inv.laid {a:Addr} {o:HO} {t':Nat} (I:Inv X pins σ H s) (k:∀ b u,s.heap.get? b=some u→h'.get? b=some u) (hp:s.heap.objs.size≤a) (new:cA X.prog X.w (upd H a o) h' a o) :
 Inv X pins σ (upd H a o) { s with heap:=h',toks:=t' }:=I.un (Un.laid k hp (I.hok.fresh hp)) (I.hok.laid k hp new)
theorem Inv.write {x e:Addr} {o:HO} {t':Nat} (I:Inv X pins σ H s) (mu:Mut (H x)) (he:e=x∨H e=some (.own x)) (k:∀ b u,b≠e→s.heap.get? b=some u→h'.get? b=some u) (heo:∃ u,h'.get? e=some u)
 (new:cA X.prog X.w (upd H x o) h' x o):Inv X pins σ (upd H x o) { s with heap:=h',toks:=t' }:=I.un (Un.write mu he k heo) (I.hok.write mu he k heo new)
theorem Inv.pins_of {pins':List (Addr×Obj)} (I:Inv X pins σ H s) (h:∀ p∈pins',s.heap.get? p.1=some p.2∧H p.1=none∧p.1≠X.env.locals∧p.1∉X.fs∧∀ v,p.2.data≠.cell v):Inv X pins' σ H s:=
 ⟨I.ok,I.os,I.bare,I.base,I.loc,I.cell,I.free,I.freeC,fun p hp=>(List.mem_append.mp hp).elim (fun z=>I.pin p (List.mem_append_left _ z)) (h p),I.hok,I.len⟩
theorem mo {N:List Str} (hN:N.Nodup) {i j:Nat} {x:Str} (a:N[i]?=some x) (b:N[j]?=some x):i=j:=by
 obtain ⟨h1,e1⟩:=List.getElem?_eq_some_iff.mp a
 obtain ⟨h2,e2⟩:=List.getElem?_eq_some_iff.mp b
 exact (List.getElem_inj hN).mp (e1.trans e2.symm)
theorem kQ {M:Model} {A:Around} {E:Value→Shared→Prop} {i:Nat} {x:Str} {v:V} {u:Value} {Q:Unit→Shared→Prop} (I:Inv X pins σ H s) (hN:X.N.Nodup) (hi:X.N[i]?=some x) (hx:Loc X.env.scope x) (r:RelV v u)
  (h:∀ s',Inv X pins (σ.set i (some v)) H s'→(∃ a,Heap.SameBut a s.heap s'.heap∧(a=X.env.locals∨X.env.cells.lookup x=some a))→Q () s') (hf:X.fn x=true∨X.env.scope.names.lookup x=some .local:=by first | exact .inl rfl | exact .inr rfl | assumption):wpAny M A (storeName X.env x u) Q E s:=by
 obtain ⟨m,hn,hl⟩:=id I.loc
 have hcls:(X.env.scope.kind==.class||(X.env.scope.kind==.module&&X.env.locals != X.env.globals))=false:=by rw [I.ok.kind];rfl
 have hiσ:i<σ.length:=by rw [I.len];exact (List.getElem?_eq_some_iff.mp hi).1
 have cne:=I.cne
 have tracked:∀ {a:Addr} {h':Heap},(∃ o,s.heap.get? a=some o∧H a=none)→Heap.SameBut a s.heap h'→HOk X.prog X.w H h':=fun {a h'} ha hs b ob e=>by
  obtain ⟨_,_,hfree⟩:=ha
  refine (I.hok b ob e).stay (fun c w' hc q=>(hs.2 c ?_).trans q) (fun _ q=>q) fun _ _ q=>q
  rintro rfl
  rcases hc with rfl | hc
  ·
   rw [hfree] at e;cases e
  ·
   rw [hfree] at hc;cases hc
 rcases hx with hk | hk
 ·
  refine wpAny_storeName_local hk hn (fun h' hn' hs=>?_) hcls
  obtain ⟨oL,_,_,hoL,_⟩:=id hn
  refine h _ ⟨I.ok,I.os,I.bare,⟨fun b o e n hb hx=>?_,fun b o e n hb hx=>?_,I.base.free,fun b o e hx=>?_,I.base.tups,I.base.frzs,I.base.tbls⟩,⟨_,hn',fun j y v' e1 e2 e3=>?_⟩,fun y c e=>?_,I.free,I.freeC,fun p hp=>?_,tracked ⟨oL,hoL,I.free⟩ hs,by simpa using I.len⟩ ⟨_,hs,.inl rfl⟩
  ·
   exact (hs.2 b (Nat.ne_of_lt (Nat.lt_of_lt_of_le (Heap.lt_size e) I.ok.above))).trans (I.base.keep b o e n hb hx)
  ·
   obtain ⟨sl,e1⟩:=I.base.slot b o e n hb hx
   exact ⟨sl,(hs.2 b (Nat.ne_of_lt (Nat.lt_of_lt_of_le (Heap.lt_size e) I.ok.above))).trans e1⟩
  ·
   obtain ⟨o',e1⟩:=I.base.there b o e hx
   exact ⟨o',(hs.2 b (Nat.ne_of_lt (Nat.lt_of_lt_of_le (Heap.lt_size e) I.ok.above))).trans e1⟩
  ·
   by_cases hj:j=i
   ·
    subst hj
    rw [hi] at e1;cases e1
    rw [List.getElem?_set_self hiσ] at e2
    cases e2
    exact ⟨u,r,.inl ⟨hk,by simp⟩⟩
   ·
    rw [List.getElem?_set_ne (Ne.symm hj)] at e2
    obtain ⟨u',r',q⟩:=hl j y v' e1 e2 e3
    refine ⟨u',r',?_⟩
    rcases q with ⟨k,e⟩ | ⟨k,c,e,z⟩
    ·
     refine .inl ⟨k,?_⟩
     have:y≠x:=fun e=>hj (mo hN e1 (e▸hi))
     simp [this,e]
    ·
     exact .inr ⟨k,c,e,z.sameBut hs (cne y c e)⟩
  ·
   obtain ⟨w',z⟩:=I.cell y c e
   exact ⟨w',z.sameBut hs (cne y c e)⟩
  ·
   obtain ⟨e,n,ne,nf,d⟩:=I.pin p hp
   exact ⟨(hs.2 p.1 ne).trans e,n,ne,nf,d⟩
 ·
  have hfn:X.fn x=true:=by
   rcases hf with z | z
   ·
    exact z
   ·
    rw [z] at hk;cases hk
  obtain ⟨c,hc⟩:=I.ok.has x (.inl hk)
  obtain ⟨w',z⟩:=I.cell x c hc
  refine wpAny_storeName_cell I.ok.kind hk hc z (fun h' hc' hs=>?_)
  obtain ⟨oc,hoc,hocd⟩:=id z
  refine h { s with heap:=h' } ⟨I.ok,I.os,I.bare,⟨fun b o e n hb hx=>?_,fun b o e n hb hx=>?_,I.base.free,fun b o e hx=>?_,I.base.tups,I.base.frzs,I.base.tbls⟩,⟨m,hn.sameBut hs (Ne.symm (cne x c hc)),fun j y v' e1 e2 e3=>?_⟩,fun y c' e=>?_,I.free,I.freeC,fun p hp=>?_,tracked ⟨oc,hoc,I.freeC x c hc⟩ hs,by simpa using I.len⟩ ⟨c,hs,.inr hc⟩
  ·
   exact (hs.2 b (Nat.ne_of_lt (Nat.lt_of_lt_of_le (Heap.lt_size e) (I.ok.cab x c hfn hc)))).trans (I.base.keep b o e n hb hx)
  ·
   obtain ⟨sl,e1⟩:=I.base.slot b o e n hb hx
   exact ⟨sl,(hs.2 b (Nat.ne_of_lt (Nat.lt_of_lt_of_le (Heap.lt_size e) (I.ok.cab x c hfn hc)))).trans e1⟩
  ·
   obtain ⟨o',e1⟩:=I.base.there b o e hx
   exact ⟨o',(hs.2 b (Nat.ne_of_lt (Nat.lt_of_lt_of_le (Heap.lt_size e) (I.ok.cab x c hfn hc)))).trans e1⟩
  ·
   by_cases hj:j=i
   ·
    subst hj
    rw [hi] at e1;cases e1
    rw [List.getElem?_set_self hiσ] at e2
    cases e2
    exact ⟨u,r,.inr ⟨.inl hk,c,hc,hc'⟩⟩
   ·
    rw [List.getElem?_set_ne (Ne.symm hj)] at e2
    obtain ⟨u',r',q⟩:=hl j y v' e1 e2 e3
    refine ⟨u',r',?_⟩
    rcases q with q | ⟨k,c',e,z'⟩
    ·
     exact .inl q
    ·
     refine .inr ⟨k,c',e,z'.sameBut hs ?_⟩
     rintro rfl
     exact hj (mo hN e1 (I.ok.inj _ _ _ e hc▸hi))
  ·
   by_cases hcc:c'=c
   ·
    subst hcc;exact ⟨_,hc'⟩
   ·
    obtain ⟨w2,z2⟩:=I.cell y c' e
    exact ⟨w2,z2.sameBut hs hcc⟩
  ·
   obtain ⟨e,n,ne,nf,d⟩:=I.pin p hp
   refine ⟨(hs.2 p.1 ?_).trans e,n,ne,nf,d⟩
   intro q
   rw [q,hoc] at e
   have q':oc=p.2:=Option.some.inj e
   exact d w' (by rw [←q'];exact hocd)
theorem gm {M:Model} {A:Around} {E:Value→Shared→Prop} {i:Nat} {x:Str} {v:V} {u:Value} {Q:Unit→Shared→Prop} (I:Inv X pins σ H s) (hN:X.N.Nodup) (hi:X.N[i]?=some x) (hx:Loc X.env.scope x) (r:RelV v u)
  (h:∀ s',Inv X pins (σ.set i (some v)) H s'→Q () s') (hf:X.fn x=true∨X.env.scope.names.lookup x=some .local:=by first | exact .inl rfl | exact .inr rfl | assumption):wpAny M A (storeName X.env x u) Q E s:=
 kQ I hN hi hx r (fun s' I' _=>h s' I') hf
theorem Inv.call' {s':Shared} {ch:List Addr} (I:Inv X pins σ H s) (ho:s'.os=s.os) (u:Un (frs X.stack) ch H H' s.heap s'.heap) (hok:HOk X.prog X.w H' s'.heap) (hg:AllBare s'.gens)
  (hch:∀ b∈ch,(b∈X.ex∨X.s₀.heap.objs.size≤b)∧b≠X.env.locals∧(∀ x c,X.env.cells.lookup x=some c→c≠b)∧∀ p∈X.pn++pins,p.1≠b):Inv X pins σ H' s':=by
 obtain ⟨h',g',d',t',o'⟩:=s'
 have e:o'=s.os:=ho
 subst e
 exact I.call (g':=g') (t':=t') (d':=d') u hok hg hch
end
abbrev XK:=Value→Option Addr→Hp→Prop
abbrev St:=List (Option V)
abbrev VK:=V→Hp→Prop
abbrev TE:=St→Hp→VK→Prop
abbrev TT:=St→Hp→(Bool→Hp→Prop)→Prop
abbrev TA:=St→Hp→(List V→Hp→Prop)→Prop
structure Ends where
 nx:St→Hp→Prop
 rt:VK
 bk:St→Hp→Prop:=fun _ _=>False
 ct:St→Hp→Prop:=fun _ _=>False
abbrev TS:=Ends→St→Hp→Prop
def EP (X:Cx) (pins:List (Addr×Obj)) (σ:St) (Q:VK) (u:Value) (s':Shared):Prop:=∃ v H',Inv X pins σ H' s'∧RelV v u∧Q v H'
def TP (X:Cx) (pins:List (Addr×Obj)) (σ:St) (Q:Bool→Hp→Prop) (b:Bool) (s':Shared):Prop:=∃ H',Inv X pins σ H' s'∧Q b H'
def AP (X:Cx) (pins:List (Addr×Obj)) (σ:St) (Q:List V→Hp→Prop) (us:List Value) (s':Shared):Prop:=∃ vs H',Inv X pins σ H' s'∧aK vs us∧Q vs H'
def SP (X:Cx) (pins:List (Addr×Obj)) (D:Ends) (f:Flow) (s':Shared):Prop:=
 match f with
 | .next=>∃ σ' H',Inv X pins σ' H' s'∧D.nx σ' H'
 | .brk=>∃ σ' H',Inv X pins σ' H' s'∧D.bk σ' H'
 | .cont=>∃ σ' H',Inv X pins σ' H' s'∧D.ct σ' H'
 | .ret u=>∃ v σ' H',Inv X pins σ' H' s'∧RelV v u∧D.rt v H'
def PE (X:Cx) (e:Expr) (t:TE):Prop:=
 ∀ (pins:List (Addr×Obj)) (s:Shared) (σ:St) (H:Hp) (Q:VK),Inv X pins σ H s→t σ H Q→wpAny (model X.prog X.w) X.A (eval e X.env) (EP X pins σ Q) X.xe s
def PT (X:Cx) (e:Expr) (t:TT):Prop:=
 ∀ (pins:List (Addr×Obj)) (s:Shared) (σ:St) (H:Hp) (Q:Bool→Hp→Prop),Inv X pins σ H s→t σ H Q→wpAny (model X.prog X.w) X.A (isTrue e X.env (eval e X.env)) (TP X pins σ Q) X.xe s
def PW (X:Cx) (e:Expr) (t:TT):Prop:=
 ∀ (whole:Sem Value) (pins:List (Addr×Obj)) (s:Shared) (σ:St) (H:Hp) (Q:Bool→Hp→Prop),Inv X pins σ H s→t σ H Q→wpAny (model X.prog X.w) X.A (isTrue e X.env whole) (TP X pins σ Q) X.xe s
theorem PW.pt {X:Cx} {e:Expr} {t:TT} (h:PW X e t):PT X e t:=h _
def PA (X:Cx) (es:List Expr) (t:TA):Prop:=
 ∀ (pos:Pos) (pins:List (Addr×Obj)) (s:Shared) (σ:St) (H:Hp) (Q:List V→Hp→Prop),Inv X pins σ H s→t σ H Q→wpAny (model X.prog X.w) X.A (spliced (backTo pos (starEach es X.env))) (AP X pins σ Q) X.xe s
def PS (X:Cx) (st:Stmt) (t:TS):Prop:=
 ∀ (pins:List (Addr×Obj)) (s:Shared) (σ:St) (H:Hp) (D:Ends),Inv X pins σ H s→t D σ H→wpAny (model X.prog X.w) X.A (exec st X.env) (SP X pins D) X.xe s
def PSs (X:Cx) (st:List Stmt) (t:TS):Prop:=
 ∀ (pins:List (Addr×Obj)) (s:Shared) (σ:St) (H:Hp) (D:Ends),Inv X pins σ H s→t D σ H→wpAny (model X.prog X.w) X.A (execs st X.env) (SP X pins D) X.xe s
theorem thn {α:Type} {t:Sem α} {Q Q':α→Shared→Prop} {M:Model} {A:Around} {E:Value→Shared→Prop} {s:Shared} (h:wpAny M A t Q E s) (hQ:∀ a s,Q a s→Q' a s):wpAny M A t Q' E s:=wpAny_mono h hQ fun _ _ x=>x
end L2
namespace L2
open PySem PySem.Spec PyProof.Rows
section
variable {X:Cx}
theorem bin {a b:Expr} {ta tb:TE} (ha:PE X a ta) (hb:PE X b tb) {pins:List (Addr×Obj)} {s:Shared} {σ:St} {H:Hp} {R:V→V→Hp→Prop} (I:Inv X pins σ H s) (h:ta σ H fun x H1=>tb σ H1 fun y H2=>R x y H2)
  {α:Type} {Q:α→Shared→Prop} {f:Value→Value→Sem α}
  (hf:∀ v u s2 x y H2,Inv X pins σ H2 s2→RelV x v→RelV y u→R x y H2→wpAny (model X.prog X.w) X.A (f v u) Q X.xe s2) :
  wpAny (model X.prog X.w) X.A (eval a X.env) (fun v s₁=>wpAny (model X.prog X.w) X.A (eval b X.env) (fun u s₂=>wpAny (model X.prog X.w) X.A (f v u) Q X.xe s₂) X.xe s₁) X.xe s:=by
 refine thn (ha pins s σ H _ I h) fun v s1 ⟨x,H1,I1,r1,q1⟩=>?_
 refine thn (hb pins s1 σ H1 _ I1 q1) fun u s2 ⟨y,H2,I2,r2,q2⟩=>?_
 exact hf v u s2 x y H2 I2 r1 r2 q2
def tVar (i:Nat):TE:=fun σ H Q=>∃ v,σ[i]?=some (some v)∧Q v H
def tC (v:V):TE:=fun _ H Q=>Q v H
theorem pe_var {i:Nat} {x:Str} {pos:Pos} (hN:X.N[i]?=some x) (hv:Vis X.env.scope x) (hd:(x==("__debug__" : Str))=false:=by decide) (hcd:(x==("__classdict__" : Str))=false:=by decide):PE X (.Name x pos) (tVar i):=by
 intro pins s σ H Q I h
 obtain ⟨v,e,h⟩:=h
 obtain ⟨m,hn,hl⟩:=I.loc
 obtain ⟨u,r,l⟩:=hl i x v hN e hv
 have fin:EP X pins σ Q u s:=⟨v,H,I,r,h⟩
 rcases l with ⟨hk,hm⟩ | ⟨hk,c,hc,hcell⟩
 ·
  exact wpAny_Name (wpAny_loadName_local I.ok.kind hk hn hm fin) hd
 ·
  rcases hk with hk | hk
  ·
   exact wpAny_Name (wpAny_loadName_cell I.ok.kind hk hc hcell fin) hd
  ·
   exact wpAny_Name (wpAny_loadName_free I.ok.kind hk hc hcell fin hcd) hd
theorem pe_int {i j pos}:PE X (.Constant (.int i) j pos) (tC (.int i)):=fun _ _ _ H _ I h=>wpAny_Constant_int ⟨.int i,H,I.tok _,⟨_,rfl⟩,h⟩
theorem pe_bl {b j pos}:PE X (.Constant (.bool b) j pos) (tC (.bl b)):=fun _ _ _ H _ I h=>Constant_bool ⟨.bl b,H,I,rfl,h⟩
theorem pe_non {j pos}:PE X (.Constant .none j pos) (tC .non):=fun _ _ _ H _ I h=>Constant_none ⟨.non,H,I,rfl,h⟩
def Gl (X:Cx) (x:Str):Prop:=X.env.kindOf x=some .globalImplicit
theorem lr {E:Value→Shared→Prop} {pins:List (Addr×Obj)} {s:Shared} {σ:St} {H:Hp} {x:Str} {u:Value} {pos:Pos} {Q:Value→Shared→Prop} (I:Inv X pins σ H s) (hg:Gl X x) (hm:X.mg x=some u) (h:Q u s)
  (hd:(x==("__debug__" : Str))=false:=by decide):wpAny (model X.prog X.w) X.A (eval (.Name x pos) X.env) Q E s:=
 Calls.Name_function_global I.ok.kind hg (Calls.loadGlobal_global (by rw [I.ok.glob];exact I.mod.glob.keeps I.bk) hm h) hd
theorem gp {E:Value→Shared→Prop} {pins:List (Addr×Obj)} {s:Shared} {σ:St} {H:Hp} {x:Str} {u:Value} {pos:Pos} {Q:Value→Shared→Prop} (I:Inv X pins σ H s) (hg:Gl X x) (hm:X.mg x=none) (hv:bootBuiltins x=some u) (h:Q u s)
  (hn:x≠"__name__":=by decide) (hd:(x==("__debug__" : Str))=false:=by decide):wpAny (model X.prog X.w) X.A (eval (.Name x pos) X.env) Q E s:=by
 obtain ⟨mb,h1,h2⟩:=I.mod.blt
 exact Calls.Name_function_global I.ok.kind hg (Calls.loadGlobal_builtin (by rw [I.ok.glob];exact I.mod.glob.keeps I.bk) hm (by rw [I.ok.blt];exact h1.keeps I.bk) ((h2 x hn).trans hv) h) hd
theorem pe_glob {x:Str} {v:V} {u:Value} {pos:Pos} (hg:Gl X x) (hm:X.mg x=some u) (r:RelV v u) (hd:(x==("__debug__" : Str))=false:=by decide):PE X (.Name x pos) (tC v):=
 fun _ _ _ H _ I h=>lr I hg hm ⟨v,H,I,r,h⟩ hd
theorem jS {x:Str} {v:V} {u:Value} {pos:Pos} (hg:Gl X x) (hm:X.mg x=none) (hv:bootBuiltins x=some u) (r:RelV v u) (hn:x≠"__name__":=by decide) (hd:(x==("__debug__" : Str))=false:=by decide):PE X (.Name x pos) (tC v):=
 fun _ _ _ H _ I h=>gp I hg hm hv ⟨v,H,I,r,h⟩ hn hd
variable {a b:Expr} {ta tb:TE} {pos:Pos}
def PC (X:Cx) (op:CmpOp) (a b:Expr) (t:TE):Prop:=
 ∀ (pins:List (Addr×Obj)) (s:Shared) (σ:St) (H:Hp) (Q:VK),Inv X pins σ H s→t σ H Q→
  wpAny (model X.prog X.w) X.A (eval a X.env) (fun v s₁=>wpAny (model X.prog X.w) X.A (eval b X.env) (fun u s₂=>wpAny (model X.prog X.w) X.A (compareOp op v u) (EP X pins σ Q) X.xe s₂) X.xe s₁) X.xe s
def tB (t:TE):TT:=fun σ H Q=>t σ H fun x H1=>∃ c,x=.bl c∧Q c H1
theorem pt_cmp {op:CmpOp} {t:TE} (h:PC X op a b t) (h1:behindInMarks op b=false:=by first | exact nobehind _ (by decide) (by decide) | rfl):PT X (.Compare a [op] [b] pos) (tB t):=by
 intro pins s σ H Q I hw
 refine wpAny_isTrue_Compare1 (thn (h pins s σ H _ I hw) fun v s1 h1=>thn h1 fun u s2 h2=>thn h2 fun c s3 ⟨x,H1,I1,r1,q1⟩=>?_) h1
 obtain ⟨d,rfl,q⟩:=q1
 cases r1
 exact wpAny_truthy_bool ⟨H1,I1,q⟩
theorem pt_val {e:Expr} {t:TE} (h:PE X e t) (he:∀ whole,isTrue e X.env whole=(do let v ←whole;standAt e.pos;holding [v] (truthy v)):=by intro _;rfl):PT X e (tB t):=by
 intro pins s σ H Q I hw
 refine isTrue_plain (thn (h pins s σ H _ I hw) fun v s1 ⟨x,H1,I1,r1,q1⟩=>?_) (he _)
 obtain ⟨d,rfl,q⟩:=q1
 cases r1
 exact wpAny_truthy_bool ⟨H1,I1,q⟩
variable {tA tB':TT} {rest:List Expr}
def tAnd (t u:TT):TT:=fun σ H Q=>t σ H fun c H1=>if c=true then u σ H1 Q else Q false H1
def tOr (t u:TT):TT:=fun σ H Q=>t σ H fun c H1=>if c=true then Q true H1 else u σ H1 Q
def tNot (t:TT):TT:=fun σ H Q=>t σ H fun c H1=>Q (!c) H1
theorem pw_and1 (ha:PT X a tA):PW X (.BoolOp .And [a] pos) tA:=by
 intro wh pins s σ H Q I h
 refine isTrue_and (thn (ha pins s σ H Q I h) fun c s1 e=>?_)
 cases c with
 | true=>exact isTrue_and_nil e
 | false=>exact e
theorem pw_or1 (ha:PT X a tA):PW X (.BoolOp .Or [a] pos) tA:=by
 intro wh pins s σ H Q I h
 refine isTrue_or (thn (ha pins s σ H Q I h) fun c s1 e=>?_)
 cases c with
 | false=>exact isTrue_or_nil e
 | true=>exact e
theorem pw_and (ha:PT X a tA) (hb:PW X (.BoolOp .And (b::rest) pos) tB'):PW X (.BoolOp .And (a::b::rest) pos) (tAnd tA tB'):=by
 intro wh pins s σ H Q I h
 refine isTrue_and (thn (ha pins s σ H _ I h) fun c s1 ⟨H1,I1,q1⟩=>?_)
 cases c with
 | true=>exact hb wh pins s1 σ H1 Q I1 q1
 | false=>exact ⟨H1,I1,q1⟩
theorem pw_or (ha:PT X a tA) (hb:PW X (.BoolOp .Or (b::rest) pos) tB'):PW X (.BoolOp .Or (a::b::rest) pos) (tOr tA tB'):=by
 intro wh pins s σ H Q I h
 refine isTrue_or (thn (ha pins s σ H _ I h) fun c s1 ⟨H1,I1,q1⟩=>?_)
 cases c with
 | true=>exact ⟨H1,I1,q1⟩
 | false=>exact hb wh pins s1 σ H1 Q I1 q1
theorem pt_not (ha:PT X a tA):PT X (.UnaryOp .Not a pos) (tNot tA):=by
 intro pins s σ H Q I h
 exact isTrue_not (ha pins s σ H (fun c H1=>Q (!c) H1) I h)
def tAndV (ta tb:TE):TE:=fun σ H Q=>ta σ H fun x H1=>∃ c,x=.bl c∧if c=true then tb σ H1 Q else Q (.bl false) H1
def tOrV (ta tb:TE):TE:=fun σ H Q=>ta σ H fun x H1=>∃ c,x=.bl c∧if c=true then Q (.bl true) H1 else tb σ H1 Q
def tNotV (ta:TE):TE:=fun σ H Q=>ta σ H fun x H1=>∃ c,x=.bl c∧Q (.bl (!c)) H1
theorem pe_one {op} {t:TE} (h:PE X a t):PE X (.BoolOp op [a] pos) t:=fun pins s σ H Q I hw=>BoolOp_one (h pins s σ H Q I hw)
theorem pe_and (ha:PE X a ta) (hb:PE X (.BoolOp .And (b::rest) pos) tb):PE X (.BoolOp .And (a::b::rest) pos) (tAndV ta tb):=by
 intro pins s σ H Q I h
 refine BoolOp_and (thn (ha pins s σ H _ I h) fun v s1 ⟨x,H1,I1,r1,q1⟩=>?_)
 obtain ⟨c,rfl,q1⟩:=q1
 cases r1
 refine wpAny_truthy_bool ?_
 cases c with
 | true=>exact hb pins s1 σ H1 Q I1 q1
 | false=>exact ⟨.bl false,H1,I1,rfl,q1⟩
theorem pe_or (ha:PE X a ta) (hb:PE X (.BoolOp .Or (b::rest) pos) tb):PE X (.BoolOp .Or (a::b::rest) pos) (tOrV ta tb):=by
 intro pins s σ H Q I h
 refine BoolOp_or (thn (ha pins s σ H _ I h) fun v s1 ⟨x,H1,I1,r1,q1⟩=>?_)
 obtain ⟨c,rfl,q1⟩:=q1
 cases r1
 refine wpAny_truthy_bool ?_
 cases c with
 | false=>exact hb pins s1 σ H1 Q I1 q1
 | true=>exact ⟨.bl true,H1,I1,rfl,q1⟩
theorem pe_not (ha:PE X a ta):PE X (.UnaryOp .Not a pos) (tNotV ta):=by
 intro pins s σ H Q I h
 refine UnaryOp_ (thn (ha pins s σ H _ I h) fun v s1 ⟨x,H1,I1,r1,q1⟩=>?_)
 obtain ⟨c,rfl,q1⟩:=q1
 cases r1
 exact not_of (wpAny_truthy_bool ⟨.bl (!c),H1,I1,rfl,q1⟩)
def tIf (t:TT) (ta tb:TE):TE:=fun σ H Q=>t σ H fun c H1=>if c=true then ta σ H1 Q else tb σ H1 Q
theorem mq {c:Expr} (hc:PT X c tA) (ha:PE X a ta) (hb:PE X b tb):PE X (.IfExp c a b pos) (tIf tA ta tb):=by
 intro pins s σ H Q I h
 refine wpAny_IfExp (thn (hc pins s σ H _ I h) fun d s1 ⟨H1,I1,q1⟩=>?_)
 cases d with
 | true=>exact ha pins s1 σ H1 Q I1 q1
 | false=>exact hb pins s1 σ H1 Q I1 q1
end
end L2
namespace L2
open PySem PySem.Spec PyProof.Rows
def SqL (K:PySem.W.Frag) (H:Hp) (a:Addr) (xs:List V):Prop:=
 Rd H a (.lst xs)∨
  ∃ (o:Obj) (its:Array Value) (n:Nat),K.lookup a=some o∧o.cls=.type "list"∧o.dict=none∧o.data=.seq its n∧its.size≤sizeLine∧aK xs its.toList
def SqT (K:PySem.W.Frag) (H:Hp) (a:Addr) (xs:List V):Prop:=
 Rd H a (.tup xs)∨
  ∃ (o:Obj) (its:Array Value) (n:Nat),K.lookup a=some o∧o.cls=.type "tuple"∧o.data=.seq its n∧its.size≤sizeLine∧aK xs its.toList
def absV:Value→Option V
 | .none=>some .non
 | .bool b=>some (.bl b)
 | .int i _=>some (.int i)
 | .str x _=>some (.str x)
 | .bytes b _=>some (.byt b)
 | .float b _=>some (.flt b)
 | .ref a=>some (.ref a)
 | .type n=>some (.ty n)
 | _=>none
theorem RelV.abs {x:V} {u:Value} (r:RelV x u):absV u=some x:=by
 cases x with
 | non=>cases r;rfl
 | bl _=>cases r;rfl
 | int _=>obtain ⟨t,rfl⟩:=r;rfl
 | str _=>obtain ⟨t,rfl⟩:=r;rfl
 | byt _=>obtain ⟨t,rfl⟩:=r;rfl
 | flt _=>obtain ⟨t,rfl⟩:=r;rfl
 | ref _=>cases r;rfl
 | ty _=>cases r;rfl
theorem RelV.inj {x y:V} {u:Value} (r:RelV x u) (q:RelV y u):x=y:=Option.some.inj (r.abs.symm.trans q.abs)
theorem aK.inj:∀ {xs ys:List V} {us:List Value},aK xs us→aK ys us→xs=ys
 | _,_,_,.nil,.nil=>rfl
 | _,_,_,.cons r t,.cons r' t'=>by rw [r.inj r',aK.inj t t']
section
variable {X:Cx} {pins:List (Addr×Obj)} {σ:St} {H:Hp} {s:Shared} {a:Addr} {xs ys:List V}
theorem SqL.of {K:PySem.W.Frag} (h:H a=some (.lst xs)):SqL K H a xs:=.inl (.inl h)
theorem SqT.of {K:PySem.W.Frag} (h:H a=some (.tup xs)):SqT K H a xs:=.inl (.inl h)
theorem Inv.list (I:Inv X pins σ H s) (h:SqL X.K H a xs):∃ its:List Value,aK xs its∧PlainL s.heap a its.toArray∧xs.length≤sizeLine:=by
 rcases h with h | ⟨o,its,n,hk,hc,hd,hs,hz,r⟩
 ·
  obtain ⟨z,its,n,r,e⟩:=h.ok I.hok
  exact ⟨its,r,⟨_,n,e,rfl,rfl,rfl⟩,z⟩
 ·
  refine ⟨its.toList,r,⟨o,n,I.kIn a o hk,hc,hd,by simpa using hs⟩,?_⟩
  have e:=r.length
  simp only [Array.length_toList] at e
  omega
theorem Inv.tuple (I:Inv X pins σ H s) (h:SqT X.K H a xs):∃ its:List Value,aK xs its∧IsTup s.heap a its.toArray∧xs.length≤sizeLine:=by
 rcases h with h | ⟨o,its,n,hk,hc,hs,hz,r⟩
 ·
  obtain ⟨z,its,r,p⟩:=h.ok I.hok
  exact ⟨its,r,p,z⟩
 ·
  refine ⟨its.toList,r,⟨o,I.kIn a o hk,hc,n,by simpa using hs⟩,?_⟩
  have e:=r.length
  simp only [Array.length_toList] at e
  omega
theorem Inv.list_inj (I:Inv X pins σ H s) (h:SqL X.K H a xs) (h':SqL X.K H a ys):xs=ys:=by
 obtain ⟨its,r,⟨o,n,e,_,_,d⟩,_⟩:=I.list h
 obtain ⟨its',r',⟨o',n',e',_,_,d'⟩,_⟩:=I.list h'
 rw [e] at e';cases e'
 rw [d] at d'
 injection d' with d1 _
 have:its=its':=by simpa using congrArg Array.toList d1
 subst this
 exact r.inj r'
end
abbrev Cx.wish (X:Cx) (E:Value→Shared→Prop):Cx:={ X with xe:=E }
abbrev Cx.nox (X:Cx):Cx:=X.wish fun _ _=>False
theorem Cx.Ok.wish {X:Cx} (ok:X.Ok) (E:Value→Shared→Prop):(X.wish E).Ok:=
 ⟨ok.mod,ok.kind,ok.glob,ok.blt,ok.above,ok.inj,ok.has,ok.cab,ok.hd,ok.frames,ok.stk,ok.exf,ok.bs,ok.bsz,ok.noex,ok.exfs,ok.funs,ok.frf⟩
theorem Cx.Ok.unwish {X:Cx} {E:Value→Shared→Prop} (ok:(X.wish E).Ok):X.Ok:=
 ⟨ok.mod,ok.kind,ok.glob,ok.blt,ok.above,ok.inj,ok.has,ok.cab,ok.hd,ok.frames,ok.stk,ok.exf,ok.bs,ok.bsz,ok.noex,ok.exfs,ok.funs,ok.frf⟩
section
variable {X:Cx} {pins:List (Addr×Obj)} {σ:St} {H:Hp} {s:Shared} {E:Value→Shared→Prop}
theorem Inv.wish (I:Inv X pins σ H s) (E:Value→Shared→Prop):Inv (X.wish E) pins σ H s:=⟨I.ok.wish E,I.os,I.bare,I.base,I.loc,I.cell,I.free,I.freeC,I.pin,I.hok,I.len⟩
theorem Inv.unwish (I:Inv (X.wish E) pins σ H s):Inv X pins σ H s:=⟨I.ok.unwish,I.os,I.bare,I.base,I.loc,I.cell,I.free,I.freeC,I.pin,I.hok,I.len⟩
theorem SP.unwish {D:Ends} {f:Flow} {s':Shared} (h:SP (X.wish E) pins D f s'):SP X pins D f s':=by
 cases f with
 | next=>obtain ⟨σ',H',I,q⟩:=h;exact ⟨σ',H',I.unwish,q⟩
 | brk=>obtain ⟨σ',H',I,q⟩:=h;exact ⟨σ',H',I.unwish,q⟩
 | cont=>obtain ⟨σ',H',I,q⟩:=h;exact ⟨σ',H',I.unwish,q⟩
 | ret u=>obtain ⟨v,σ',H',I,r,q⟩:=h;exact ⟨v,σ',H',I.unwish,r,q⟩
theorem PSs.nox {st:List Stmt} {t:TS} (h:PSs X.nox st t):PSs X st t:=fun pins s σ H D I hw=>
 wpAny_mono (h pins s σ H D (I.wish _) hw) (fun _ _ q=>q.unwish) fun _ _ z=>False.elim z
end
section
variable {X:Cx} {st:Stmt} {rest:List Stmt} {t u:TS} {e:Expr} {te:TE} {pos:Pos}
def tNext:TS:=fun D σ H=>D.nx σ H
def tSeq (t u:TS):TS:=fun D σ H=>t { D with nx:=u D } σ H
theorem pss_nil:PSs X [] tNext:=fun _ _ σ H _ I h=>wpAny_execs_nil ⟨σ,H,I,h⟩
theorem pss_cons (h1:PS X st t) (h2:PSs X rest u):PSs X (st::rest) (tSeq t u):=by
 intro pins s σ H D I h
 refine wpAny_execs_cons (thn (h1 pins s σ H { D with nx:=u D } I h) fun f s1 q=>?_)
 cases f with
 | next=>
  obtain ⟨σ',H',I',q⟩:=q
  exact h2 pins s1 σ' H' D I' q
 | ret v=>exact q
 | brk=>exact q
 | cont=>exact q
theorem pss_one (h1:PS X st t):PSs X [st] t:=by
 intro pins s σ H D I h
 refine wpAny_execs_cons (thn (h1 pins s σ H D I h) fun f s1 q=>?_)
 cases f with
 | next=>exact wpAny_execs_nil q
 | ret v=>exact q
 | brk=>exact q
 | cont=>exact q
theorem Inv.quiet {pins:List (Addr×Obj)} {σ:St} {H:Hp} {s:Shared} (I:Inv X pins σ H s):interactive X.env=false:=by simp [interactive,I.ok.kind]
def tDrop (te:TE):TS:=fun D σ H=>te σ H fun _ H1=>D.nx σ H1
theorem lu (he:PE X e te) (hs:swapsWith e none pos.line X.env=pure false:=by rfl):PS X (.Expr e pos) (tDrop te):=by
 intro pins s σ H D I h
 exact wpAny_Expr_any (thn (he pins s σ H _ I h) fun v s1 ⟨x,H1,I1,r1,q1⟩=>⟨σ,H1,I1,q1⟩) I.quiet hs
def tRet (te:TE):TS:=fun D σ H=>te σ H D.rt
theorem ps_ret (he:PE X e te):PS X (.Return (some e) pos) (tRet te):=by
 intro pins s σ H D I h
 exact wpAny_Return_some (thn (he pins s σ H _ I h) fun v s1 ⟨x,H1,I1,r1,q1⟩=>⟨x,σ,H1,I1,r1,q1⟩)
def tIfS (c:TT) (t u:TS):TS:=fun D σ H=>c σ H fun b H1=>if b=true then t D σ H1 else u D σ H1
theorem ps_if {c:Expr} {a b:List Stmt} {tc:TT} (hc:PT X c tc) (ha:PSs X a t) (hb:PSs X b u):PS X (.If c a b pos) (tIfS tc t u):=by
 intro pins s σ H D I h
 refine wpAny_If (thn (hc pins s σ H _ I h) fun d s1 ⟨H1,I1,q1⟩=>?_)
 cases d with
 | true=>exact ha pins s1 σ H1 D I1 q1
 | false=>exact hb pins s1 σ H1 D I1 q1
end
abbrev TG:=V→St→Hp→(St→Hp→Prop)→Prop
abbrev TGs:=List V→St→Hp→(St→Hp→Prop)→Prop
def PG (X:Cx) (target:Expr) (t:TG):Prop:=
 ∀ (pins:List (Addr×Obj)) (s:Shared) (σ:St) (H:Hp) (v:V) (u:Value) (Q:St→Hp→Prop),Inv X pins σ H s→RelV v u→t v σ H Q→
  wpAny (model X.prog X.w) X.A (assign target X.env u) (fun _ s'=>∃ σ' H',Inv X pins σ' H' s'∧Q σ' H') X.xe s
def PGs (X:Cx) (ts:List Expr) (t:TGs):Prop:=
 ∀ (pins:List (Addr×Obj)) (s:Shared) (σ:St) (H:Hp) (vs:List V) (us:List Value) (Q:St→Hp→Prop),Inv X pins σ H s→aK vs us→t vs σ H Q→
  wpAny (model X.prog X.w) X.A (assignInOrder ((assignEach ts X.env).map (·.2)) us) (fun _ s'=>∃ σ' H',Inv X pins σ' H' s'∧Q σ' H') X.xe s
abbrev TIp:=V→V→Hp→VK→Prop
def PIp (X:Cx) (op:Operator) (t:TIp):Prop:=
 ∀ (pins:List (Addr×Obj)) (s:Shared) (σ:St) (H:Hp) (x y:V) (v u:Value) (Q:VK),Inv X pins σ H s→RelV x v→RelV y u→t x y H Q→
  wpAny (model X.prog X.w) X.A (inplaceOp op v u) (EP X pins σ Q) X.xe s
section
variable {X:Cx} {pos:Pos}
def kR (i:Nat):TG:=fun v σ H Q=>Q (σ.set i (some v)) H
theorem pg_name {i:Nat} {x:Str} (hN:X.N.Nodup) (hi:X.N[i]?=some x) (hx:Loc X.env.scope x) (hf:X.fn x=true∨X.env.scope.names.lookup x=some .local:=by first | exact .inl rfl | exact .inr rfl | assumption):PG X (.Name x pos) (kR i):=by
 intro pins s σ H v u Q I r h
 exact wpAny_assign_Name (gm I hN hi hx r (fun s' I'=>⟨_,H,I',h⟩) hf)
def gNil:TGs:=fun vs σ H Q=>vs=[]∧Q σ H
def gCons (t:TG) (u:TGs):TGs:=fun vs σ H Q=>∃ v r,vs=v::r∧t v σ H fun σ' H'=>u r σ' H' Q
theorem pgs_nil:PGs X [] gNil:=by
 intro pins s σ H vs us Q I r h
 obtain ⟨e,h⟩:=h
 subst e
 cases r
 exact assignInOrder_nil ⟨σ,H,I,h⟩
theorem pgs_cons {e:Expr} {es:List Expr} {t:TG} {u:TGs} (h1:PG X e t) (h2:PGs X es u)
  (hs:(assignEach (e::es) X.env).map (·.2)=assign e X.env::(assignEach es X.env).map (·.2):=by rfl):PGs X (e::es) (gCons t u):=by
 intro pins s σ H vs us Q I r h
 obtain ⟨v,vr,e1,h⟩:=h
 subst e1
 cases r with
 | cons r rr=>
  rw [hs]
  refine assignInOrder_cons (thn (h1 pins s σ H _ _ _ I r h) fun _ s1 ⟨σ1,H1,I1,q1⟩=>?_)
  exact h2 pins s1 σ1 H1 _ _ Q I1 rr q1
def gTup (K:PySem.W.Frag) (n:Nat) (t:TGs):TG:=fun v σ H Q=>∃ a xs,v=.ref a∧SqT K H a xs∧xs.length=n∧t xs σ H Q
theorem pg_tup {es:List Expr} {k:Nat} {t:TGs} {n:Nat} (hc:X.calm=true) (h:PGs X es t)
  (hn:(assignEach es X.env).length=n:=by rfl) (hst:(assignEach es X.env).findIdx? (·.1)=none:=by rfl):PG X (.Tuple es k pos) (gTup X.K n t):=by
 intro pins s σ H v u Q I r hw
 obtain ⟨a,xs,e1,hq,hl,hw⟩:=hw
 subst e1
 cases r
 obtain ⟨its,rv,ht,hz⟩:=I.tuple hq
 refine assign_Tuple_tuple (I.ok.hd hc) ht (by simp [hn,←hl,rv.length]) hst fun h' hx=>?_
 have I1:Inv X pins σ H { s with heap:=h' }:=I.kept (t':=s.toks) fun b o e=>hx b o (Nat.ne_of_lt (Heap.lt_size e)) e
 exact h pins _ σ H xs _ Q I1 (by simpa using rv) hw
def tAsg (te:TE) (g:TG):TS:=fun D σ H=>te σ H fun x H1=>g x σ H1 D.nx
theorem ps_set {i:Nat} {x:Str} {e:Expr} {te:TE} {pos':Pos} (hN:X.N.Nodup) (hi:X.N[i]?=some x) (hx:Loc X.env.scope x) (he:PE X e te) (hs:swapsWith e (some (.Name x pos')) pos.line X.env=pure false:=by rfl) (hf:X.fn x=true∨X.env.scope.names.lookup x=some .local:=by first | exact .inl rfl | exact .inr rfl | assumption) :
  PS X (.Assign [.Name x pos'] e pos) (tAsg te (kR i)):=by
 intro pins s σ H D I h
 refine wpAny_Assign_Name (thn (he pins s σ H _ I h) fun v s1 ⟨y,H1,I1,r1,q1⟩=>?_) hs
 exact gm I1 hN hi hx r1 (fun s2 I2=>⟨_,H1,I2,q1⟩) hf
def tPar (i j:Nat) (ta:TA):TS:=fun D σ H=>ta σ H fun vs H1=>∃ v w,vs=[v,w]∧D.nx ((σ.set i (some v)).set j (some w)) H1
theorem ps_par {i j:Nat} {x y:Str} {a b:Expr} {ta:TA} {px py pt:Pos} {kt k2 pt2} (hc:X.calm=true) (hN:X.N.Nodup) (hi:X.N[i]?=some x) (hj:X.N[j]?=some y) (hij:i≠j)
  (hx:X.env.scope.names.lookup x=some .local) (hy:X.env.scope.names.lookup y=some .local) (ha:PA X [a,b] ta)
  (hw:swappedStores [.Tuple [.Name x px,.Name y py] kt pt] (.Tuple [a,b] k2 pt2) X.env=pure (some [x,y]))
  (hs:swapsWithSole [.Tuple [.Name x px,.Name y py] kt pt] (.Tuple [a,b] k2 pt2) pos.line X.env=pure false:=by rfl) :
  PS X (.Assign [.Tuple [.Name x px,.Name y py] kt pt] (.Tuple [a,b] k2 pt2) pos) (tPar i j ta):=by
 intro pins s σ H D I h
 rw [exec_Assign_arm]
 refine wpAny_bind (wpAny_standAt ?_)
 rw [hs]
 refine wpAny_bind (wpAny_pure ?_)
 rw [if_neg (by decide)]
 refine wpAny_bind (Tuple_ (thn (ha _ pins s σ H _ I h) fun us s1 ⟨vs,H1,I1,r1,q1⟩=>?_))
 obtain ⟨v,w,e1,q1⟩:=q1
 subst e1
 obtain ⟨u1,u2,rfl,rv,rw'⟩ : ∃ u1 u2,us=[u1,u2]∧RelV v u1∧RelV w u2:=by
  cases r1 with
  | cons p q=>
   cases q with
   | cons p' q'=>
    cases q'
    exact ⟨_,_,rfl,p,p'⟩
 refine wpAny_newObj_type ?_ (by show 2≤sizeLine;decide)
 have I2:Inv X pins σ H1 { s1 with heap:=s1.heap.push { cls:=.type "tuple",data:=.seq [u1,u2].toArray } }:=I1.kept (t':=s1.toks) fun b o e=>Heap.get?_push_of_some _ e
 rw [hw]
 refine wpAny_bind (wpAny_pure ?_)
 show wpAny (model X.prog X.w) X.A (do rule "assign.swapped-stores";let items ←unpackItems (.ref s1.heap.objs.size) 2 none;assignInOrder [fun v=>bindName X.env y v,fun v=>bindName X.env x v] items.reverse;pure Flow.next) _ _ _
 refine wpAny_bind (wpAny_rule (wpAny_bind (unpackItems_tuple (items:=#[u1,u2]) (I.ok.hd hc) (IsTup.new s1.heap _) fun h' hx'=>?_)))
 have I3:=I2.kept (h':=h') (t':=s1.toks) fun b o e=>hx' b o (Nat.ne_of_lt (Heap.lt_size e)) e
 show wpAny _ _ (assignInOrder [fun v=>bindName X.env y v,fun v=>bindName X.env x v] [u2,u1] >>= fun _=>pure Flow.next) _ _ _
 refine wpAny_bind (assignInOrder_cons (wpAny_bindName (gm I3 hN hj (.inl hy) rw' (fun s2 I4=>?_) (.inr hy))))
 refine assignInOrder_cons (wpAny_bindName (gm I4 hN hi (.inl hx) rv (fun s3 I5=>assignInOrder_nil (wpAny_pure ?_)) (.inr hx)))
 rw [List.set_comm _ _ (Ne.symm hij)] at I5
 exact ⟨_,H1,I5,q1⟩
def tAug (i:Nat) (te:TE) (ti:TIp):TS:=fun D σ H=>∃ x,σ[i]?=some (some x)∧te σ H fun y H1=>ti x y H1 fun z H2=>D.nx (σ.set i (some z)) H2
theorem ps_aug {i:Nat} {x:Str} {e:Expr} {te:TE} {op:Operator} {ti:TIp} {pos':Pos} (hN:X.N.Nodup) (hi:X.N[i]?=some x) (hx:Loc X.env.scope x) (he:PE X e te) (ho:PIp X op ti) (hf:X.fn x=true∨X.env.scope.names.lookup x=some .local:=by first | exact .inl rfl | exact .inr rfl | assumption) :
  PS X (.AugAssign (.Name x pos') op e pos) (tAug i te ti):=by
 intro pins s σ H D I h
 obtain ⟨v,e1,h⟩:=h
 obtain ⟨m,hn,hl⟩:=I.loc
 have vis:Vis X.env.scope x:=by rcases hx with k | k;exact .inl k;exact .inr (.inl k)
 obtain ⟨u,r,l⟩:=hl i x v hi e1 vis
 refine wpAny_AugAssign_Name ?_
 have go:wpAny (model X.prog X.w) X.A (eval e X.env) (fun w s₂=>wpAny (model X.prog X.w) X.A (inplaceOp op u w) (fun r s₃=>wpAny (model X.prog X.w) X.A (storeName X.env x r) (fun _=>SP X pins D .next) X.xe s₃) X.xe s₂) X.xe s:=by
  refine thn (he pins s σ H _ I h) fun w s1 ⟨y,H1,I1,r1,q1⟩=>?_
  refine thn (ho pins s1 σ H1 v y u w _ I1 r r1 q1) fun z s2 ⟨zv,H2,I2,r2,q2⟩=>?_
  exact gm I2 hN hi hx r2 (fun s3 I3=>⟨_,H2,I3,q2⟩) hf
 rcases l with ⟨hk,hm⟩ | ⟨hk,c,hc,hcell⟩
 ·
  exact wpAny_loadName_local I.ok.kind hk hn hm go
 ·
  rcases hk with hk | hk
  ·
   exact wpAny_loadName_cell I.ok.kind hk hc hcell go
  ·
   rcases hx with k | k
   ·
    have:X.env.scope.names.lookup x=some .free:=hk
    rw [k] at this;cases this
   ·
    have:X.env.scope.names.lookup x=some .free:=hk
    rw [k] at this;cases this
def ipI (f:Int→Int→Int):TIp:=fun x y H Q=>∃ i j,x=.int i∧y=.int j∧Q (.int (f i j)) H
theorem ip_add:PIp X .Add (ipI fun i j=>i+j):=by
 intro pins s σ H x y v u Q I r1 r2 h
 obtain ⟨i,j,e1,e2,q⟩:=h
 subst e1;subst e2
 obtain ⟨t,rfl⟩:=r1
 obtain ⟨t',rfl⟩:=r2
 exact iadd_int ⟨.int _,H,I.tok _,⟨_,rfl⟩,q⟩
end
section
variable {X:Cx} {pos:Pos}
def tWhile (c:TT) (tb:TS):TS:=fun D σ H=>∃ W:Nat→St→Hp→Prop,(∃ m,W m σ H)∧∀ m σ H,W m σ H→
 c σ H fun b H1=>if b=true then ∃ N:St→Hp→Prop,(∀ σ' H',N σ' H'→∃ m',m'<m∧W m' σ' H')∧tb { D with nx:=N,ct:=N,bk:=D.nx } σ H1 else D.nx σ H1
theorem ps_while {c:Expr} {body:List Stmt} {tc:TT} {tb:TS} (hp:PassesOwn (model X.prog X.w) X.A X.env X.xe) (hc:PT X c tc) (hb:PSs X body tb):PS X (.While c body [] pos) (tWhile tc tb):=by
 intro pins s σ H D I h
 obtain ⟨W,⟨m0,w0⟩,turn⟩:=h
 refine wpAny_While (codeAny_whileLoop (fun n s'=>∃ σ' H',Inv X pins σ' H' s'∧W n σ' H') ?_ m0 ⟨σ,H,I,w0⟩)
 rintro n s1 ⟨σ1,H1,I1,w1⟩
 refine wpAny_passesOwn hp (thn (hc pins s1 σ1 H1 _ I1 (turn n σ1 H1 w1)) fun b s2 ⟨H2,I2,q2⟩=>?_)
 cases b with
 | true=>
  obtain ⟨N,hN,q2⟩:=q2
  rw [if_pos rfl]
  refine wpAny_passesOwn hp (thn (hb pins s2 σ1 H2 _ I2 q2) fun f s3 q3=>?_)
  cases f with
  | next=>
   obtain ⟨σ3,H3,I3,n3⟩:=q3
   obtain ⟨m',hm,w3⟩:=hN σ3 H3 n3
   exact ⟨m',hm,σ3,H3,I3,w3⟩
  | cont=>
   obtain ⟨σ3,H3,I3,n3⟩:=q3
   obtain ⟨m',hm,w3⟩:=hN σ3 H3 n3
   exact ⟨m',hm,σ3,H3,I3,w3⟩
  | brk=>exact q3
  | ret v=>exact q3
 | false=>
  rw [if_neg Bool.false_ne_true]
  exact wpAny_execs_nil ⟨σ1,H2,I2,q2⟩
end
structure It where
 go:Nat→Hp→Prop
 yld:Nat→Hp→V→Hp→Prop
 stop:Nat→Hp→Prop
def FpOk (X:Cx) (pins:List (Addr×Obj)) (H:Hp) (b:Addr):Prop:=
 H b=none∧b≠X.env.locals∧b∉X.fs∧(b∈X.ex∨X.s₀.heap.objs.size≤b)∧(∀ x c,X.env.cells.lookup x=some c→c≠b)∧∀ p∈X.pn++pins,p.1≠b
theorem Inv.fpOk {X:Cx} {pins:List (Addr×Obj)} {σ:St} {H H':Hp} {s:Shared} {b:Addr} (I:Inv X pins σ H s) (hb:s.heap.objs.size≤b) (hn:H' b=none):FpOk X pins H' b:=by
 refine ⟨hn,Nat.ne_of_gt (Nat.lt_of_lt_of_le I.lt hb),I.nofs hb,.inr (Nat.le_trans I.sz hb),fun x c e z=>?_,fun p hp z=>?_⟩
 ·
  obtain ⟨v,q⟩:=I.cell x c e
  exact absurd (Nat.lt_of_lt_of_le q.lt (by rw [z];exact hb)) (Nat.lt_irrefl _)
 ·
  exact absurd (Nat.lt_of_lt_of_le (Heap.lt_size (I.pin p hp).1) (by rw [z];exact hb)) (Nat.lt_irrefl _)
structure Turn (P:Program) (w:World) (K:PySem.W.Frag) (tg:Expr) (J:It) (fp:List Addr) (it:Addr) (tn:Nat→Heap→Prop):Prop where
 mem:it∈fp
 obj:∀ i h,tn i h→∀ b∈fp,∃ o,h.get? b=some o∧∀ v,o.data≠.cell v
 keep:∀ i h h',tn i h→(∀ b∈fp,∀ o,h.get? b=some o→h'.get? b=some o)→tn i h'
 item:∀ (X:Cx),X.prog=P→X.w=w→X.K=K→X.calm=true→∀ (i:Nat) (pins:List (Addr×Obj)) (s:Shared) (σ:St) (H:Hp) (E:Value→Shared→Prop),Inv X pins σ H s→(∀ b∈fp,FpOk X pins H b)→tn i s.heap→J.go i H→
  wpAny (model P w) X.A (pyNext (.ref it)) (fun r s1=>∃ u,r=some u∧
   wpAny (model P w) X.A (letOwnedTupleGo tg (.ref it) u) (fun _ s2=>∃ x H',Inv X pins σ H' s2∧RelV x u∧J.yld i H x H'∧tn (i+1) s2.heap∧∀ b∈fp,H' b=none) E s1) E s
 done:∀ (X:Cx),X.prog=P→X.w=w→X.K=K→X.calm=true→∀ (i:Nat) (pins:List (Addr×Obj)) (s:Shared) (σ:St) (H:Hp) (E:Value→Shared→Prop),Inv X pins σ H s→(∀ b∈fp,FpOk X pins H b)→tn i s.heap→J.stop i H→
  wpAny (model P w) X.A (pyNext (.ref it)) (fun r s1=>r=none∧Inv X pins σ H s1) E s
 self:∀ (A:Around) (i:Nat) (s:Shared) (Q:Value→Shared→Prop) (E:Value→Shared→Prop),tn i s.heap→Q (.ref it) s→wpAny (model P w) A (pyIter (.ref it)) Q E s
abbrev TI:=St→Hp→(It→Hp→Prop)→Prop
def PIE (X:Cx) (pins:List (Addr×Obj)) (σ:St) (tg:Expr) (R:It→Hp→Prop) (itv:Value) (s2:Shared):Prop:=
 ∃ (it:Addr) (fp:List Addr) (tn:Nat→Heap→Prop) (J:It) (H':Hp),itv=.ref it∧Inv X pins σ H' s2∧Turn X.prog X.w X.K tg J fp it tn∧tn 0 s2.heap∧(∀ b∈fp,FpOk X pins H' b)∧R J H'
def PI (X:Cx) (tg iter:Expr) (wi:TI):Prop:=
 ∀ (pins:List (Addr×Obj)) (s:Shared) (σ:St) (H:Hp) (R:It→Hp→Prop),Inv X pins σ H s→wi σ H R→
  wpAny (model X.prog X.w) X.A (eval iter X.env) (fun v s1=>wpAny (model X.prog X.w) X.A (pyIter v) (PIE X pins σ tg R) X.xe s1) X.xe s
theorem go_of {M:Model} {A:Around} {E:Value→Shared→Prop} {s:Shared} {tg:Expr} {it:Addr} {u:Value} {o:Obj} {n:String} {vs:Array Value} {Q:Unit→Shared→Prop} (ho:s.heap.get? it=some o) (hc:o.cls=.type n) (hd:o.data=.fields vs)
    (hn:["enumerate", "zip", "dict_itemiterator", "dict_reverseitemiterator", "odict_iterator", "itertools.zip_longest", "itertools.pairwise"].contains n=false) (hQ:Q () s):wpAny M A (letOwnedTupleGo tg (.ref it) u) Q E s:=by
  unfold letOwnedTupleGo
  cases tg <;> first
    | exact wpAny_pure hQ
    | (cases u <;> first
        | exact wpAny_pure hQ
        | (refine wpAny_bind (wpAny_load ho ?_)
           rw [hc,hd]
           show wpAny M A (if (["enumerate", "zip", "dict_itemiterator", "dict_reverseitemiterator", "odict_iterator", "itertools.zip_longest", "itertools.pairwise"].contains n&&vs[0]?==some (rawInt _))=true then _ else _) Q E s
           rw [if_neg (by intro h;rw [hn,Bool.false_and] at h;cases h)]
           exact wpAny_pure hQ))
def Itl (K:PySem.W.Frag) (a:Addr):It:=
 ⟨fun i H=>∃ xs x,SqL K H a xs∧xs[i]?=some x,fun i H x H'=>H'=H∧∀ xs,SqL K H a xs→xs[i]?=some x,fun i H=>∃ xs,SqL K H a xs∧xs.length≤i⟩
def Itr (lo:Int) (n:Nat):It:=⟨fun i _=>i<n,fun i H x H'=>H'=H∧x=.int (lo+i),fun i _=>n≤i⟩
theorem turn_list {P:Program} {w:World} {K:PySem.W.Frag} {tg:Expr} (a it:Addr):Turn P w K tg (Itl K a) [it] it (fun i h=>h.IsListIter it a i) where
 mem:=by simp
 obj:=fun i h st b hb=>by
  have e:b=it:=by simpa using hb
  subst e
  obtain ⟨o,e,c,d⟩:=st
  exact ⟨o,e,fun v z=>by rw [d] at z;cases z⟩
 keep:=fun i h h' st k=>st.at fun o e=>k it (by simp) o e
 item:=by
  intro X hP hw hK hc i pins s σ H E I hf st hg
  subst hP hw hK
  obtain ⟨xs,x,hq,hx⟩:=hg
  obtain ⟨its,rv,p,hz⟩:=I.list hq
  obtain ⟨u,hu,ru⟩:=rv.get hx
  obtain ⟨f0,f1,f2,f3,f4,f5⟩:=hf it (by simp)
  refine wpAny_pyNext_list_item st p.isList (x:=u) (by simpa using hu) fun h' st' sb=>?_
  have I1:Inv X pins σ H { s with heap:=h' }:=I.turned (t':=s.toks) (fun b o hb e=>(sb.2 b hb).trans e) f0 f1 f3 f4 f5
  obtain ⟨o,e,c,d⟩:=id st'
  exact ⟨u,rfl,go_of (s:={ s with heap:=h' }) e c d (by decide) ⟨x,H,I1,ru,⟨rfl,fun ys hy=>by rw [I.list_inj hy hq];exact hx⟩,st',fun b hb=>(hf b hb).1⟩⟩
 done:=by
  intro X hP hw hK hc i pins s σ H E I hf st hg
  subst hP hw hK
  obtain ⟨xs,hq,hx⟩:=hg
  obtain ⟨its,rv,p,hz⟩:=I.list hq
  obtain ⟨f0,f1,f2,f3,f4,f5⟩:=hf it (by simp)
  have hl:=rv.length
  exact wpAny_pyNext_list_end (I.ok.hd hc) st p.isList (by simp;omega) fun h' eb=>⟨rfl,I.turned (t':=s.toks) (fun b o hb e=>eb b o hb e) f0 f1 f3 f4 f5⟩
 self:=fun _ _ _ _ _ st h=>wpAny_pyIter_listiter st h
theorem nK {P:Program} {w:World} {K:PySem.W.Frag} {tg:Expr} (it:Addr) (lo:Int) (n:Nat):Turn P w K tg (Itr lo n) [it] it (fun i h=>IsRangeIter h it (lo+(i:Nat)*1) ((n:Int)-(i:Nat)) 1) where
 mem:=by simp
 obj:=fun i h st b hb=>by
  have e:b=it:=by simpa using hb
  subst e
  exact ⟨_,st,fun v z=>by
   have z':Data.fields _=Data.cell v:=z
   cases z'⟩
 keep:=fun i h h' st k=>k it (by simp) _ st
 item:=by
  intro X hP hw hK hc i pins s σ H E I hf st hg
  subst hP hw hK
  obtain ⟨f0,f1,f2,f3,f4,f5⟩:=hf it (by simp)
  have W:=Walks.range (prog:=X.prog) (w:=X.w) (I.ok.hd hc) it lo 1 n
  refine W.item i s _ _ hg st fun v h' tk hv st' kk=>?_
  obtain ⟨t,rfl⟩:=hv
  have I1:Inv X pins σ H { s with heap:=h',toks:=tk }:=I.turned (fun b o hb e=>kk b o (by simpa using hb) e) f0 f1 f3 f4 f5
  refine ⟨_,rfl,go_of (s:={ s with heap:=h',toks:=tk }) (n:="range_iterator") st' rfl rfl (by decide) ⟨.int (lo+i),H,I1,⟨t,?_⟩,⟨rfl,rfl⟩,st',fun b hb=>(hf b hb).1⟩⟩
  rw [Int.mul_one]
 done:=by
  intro X hP hw hK hc i pins s σ H E I hf st hg
  subst hP hw hK
  obtain ⟨f0,f1,f2,f3,f4,f5⟩:=hf it (by simp)
  exact wpAny_pyNext_range_end (I.ok.hd hc) st (by have:n≤i:=hg;omega) fun h' eb=>⟨rfl,I.turned (t':=s.toks) (fun b o hb e=>eb b o hb e) f0 f1 f3 f4 f5⟩
 self:=fun _ _ _ _ _ st h=>wpAny_pyIter_rangeiter st h
end L2
namespace L2
open PySem PySem.Spec PyProof.Rows
section
variable {X:Cx} {tg:Expr}
def iList (K:PySem.W.Frag) (tl:TE):TI:=fun σ H R=>tl σ H fun x H1=>∃ a,x=.ref a∧(∃ xs,SqL K H1 a xs)∧R (Itl K a) H1
theorem pi_list {l:Expr} {tl:TE} (hl:PE X l tl):PI X tg l (iList X.K tl):=by
 intro pins s σ H R I h
 refine thn (hl pins s σ H _ I h) fun v s1 ⟨x,H1,I1,r1,q1⟩=>?_
 obtain ⟨a,e,⟨xs,hq⟩,q⟩:=q1
 subst e
 cases r1
 obtain ⟨its,rv,p,hz⟩:=I1.list hq
 refine wpAny_pyIter_list p.isList ?_
 refine ⟨s1.heap.objs.size,[s1.heap.objs.size],_,_,H1,rfl,I1.kept (t':=s1.toks) fun b o e=>Heap.get?_push_of_some _ e,turn_list a _,⟨_,Heap.get?_push_size _ rfl,rfl,rfl⟩,fun b hb=>?_,q⟩
 have e:b=s1.heap.objs.size:=by simpa using hb
 subst e
 exact I1.fpOk (Nat.le_refl _) (I1.hok.fresh (Nat.le_refl _))
theorem mr {pins:List (Addr×Obj)} {σ:St} {H:Hp} {s:Shared} {R:It→Hp→Prop} {E:Value→Shared→Prop} {lo hi:Int} {t u v:Tok} {tk:Nat} (I:Inv X pins σ H s) (h1:-(2 ^ 62)≤lo) (h2:lo<2 ^ 62) (h3:-(2 ^ 62)≤hi) (h4:hi<2 ^ 62)
  (q:R (Itr lo (hi-lo).toNat) H):wpAny (model X.prog X.w) X.A (pyIter (.ref s.heap.objs.size)) (PIE X pins σ tg R) E { s with heap:=s.heap.push { cls:=.type "range",data:=.fields #[.int lo t,.int hi u,.int 1 v] },toks:=tk }:=by
 refine wpAny_pyIter_range (IsRange.new ..) (small_one h1 h2 h3 h4) ?_
 have I1:Inv X pins σ H { s with heap:=s.heap.push { cls:=.type "range",data:=.fields #[.int lo t,.int hi u,.int 1 v] },toks:=tk }:=I.kept fun b o e=>Heap.get?_push_of_some _ e
 refine ⟨(s.heap.push { cls:=.type "range",data:=.fields #[.int lo t,.int hi u,.int 1 v] }).objs.size,[(s.heap.push { cls:=.type "range",data:=.fields #[.int lo t,.int hi u,.int 1 v] }).objs.size],_,_,H,rfl,
  I1.kept (t':=tk) fun b o e=>Heap.get?_push_of_some _ e,nK _ lo (hi-lo).toNat,?_,fun b hb=>?_,q⟩
 ·
  have e1:lo+((0:Nat):Int)*1=lo:=by simp
  have e2:(((hi-lo).toNat:Nat):Int)-((0:Nat):Int)=Builtin.Range.rangeSize lo hi 1:=by rw [rangeSize_one];split <;> omega
  show IsRangeIter _ _ (lo+((0:Nat):Int)*1) ((((hi-lo).toNat:Nat):Int)-((0:Nat):Int)) 1
  rw [e1,e2]
  exact Heap.get?_push_size _ rfl
 ·
  have e:b=(s.heap.push { cls:=.type "range",data:=.fields #[.int lo t,.int hi u,.int 1 v] }).objs.size:=by simpa using hb
  subst e
  exact I1.fpOk (Nat.le_refl _) (I1.hok.fresh (Nat.le_refl _))
def iRng1 (ta:TA):TI:=fun σ H R=>ta σ H fun vs H1=>∃ j:Int,vs=[.int j]∧-(2 ^ 62)≤j∧j<2 ^ 62∧R (Itr 0 j.toNat) H1
def iRng2 (ta:TA):TI:=fun σ H R=>ta σ H fun vs H1=>∃ i j:Int,vs=[.int i,.int j]∧(-(2 ^ 62)≤i∧i<2 ^ 62∧-(2 ^ 62)≤j∧j<2 ^ 62)∧R (Itr i (j-i).toNat) H1
theorem pi_range1 {a:Expr} {ta:TA} {p pos:Pos} (hg:Gl X "range") (hm:X.mg "range" = none) (ha:PA X [a] ta) (hs:starEach [a] X.env=[(false,eval a X.env)]:=by rfl):PI X tg (.Call (.Name "range" p) [a] [] pos) (iRng1 ta):=by
 intro pins s σ H R I h
 refine Call_ (gp I hg hm boot_range (PyProof.Rows.callWith_type1 (thn (ha pos pins s σ H _ I h) fun us s1 ⟨vs,H1,I1,r1,q1⟩=>?_) hs rfl))
 obtain ⟨j,e,q1,q2,q⟩:=q1
 subst e
 cases r1 with
 | cons r rr=>
  cases rr
  obtain ⟨t,rfl⟩:=r
  exact call_range_1 (mr I1 (by omega) (by omega) q1 q2 (by simpa using q))
theorem pi_range2 {a b:Expr} {ta:TA} {p pos:Pos} (hg:Gl X "range") (hm:X.mg "range" = none) (ha:PA X [a,b] ta) (hs:starEach [a,b] X.env=[(false,eval a X.env),(false,eval b X.env)]:=by rfl) (hs2:starEach [b] X.env=[(false,eval b X.env)]:=by rfl) :
  PI X tg (.Call (.Name "range" p) [a,b] [] pos) (iRng2 ta):=by
 intro pins s σ H R I h
 refine Call_ (gp I hg hm boot_range (PyProof.Rows.callWith_type1 (thn (ha pos pins s σ H _ I h) fun us s1 ⟨vs,H1,I1,r1,q1⟩=>?_) (by rw [hs,hs2]) (by rw [hs2];rfl)))
 obtain ⟨i,j,e,⟨q1,q2,q3,q4⟩,q⟩:=q1
 subst e
 cases r1 with
 | cons r rr=>
  cases rr with
  | cons r' rr=>
   cases rr
   obtain ⟨t,rfl⟩:=r
   obtain ⟨t',rfl⟩:=r'
   exact call_range_2 (mr I1 q1 q2 q3 q4 q)
def tFor (wi:TI) (g:TG) (tb:TS):TS:=fun D σ H=>wi σ H fun J H1=>∃ W:Nat→Nat→St→Hp→Prop,(∃ m,W 0 m σ H1)∧∀ i m σ H,W i m σ H→
 (J.stop i H∧D.nx σ H)∨(J.go i H∧∃ N:St→Hp→Prop,(∀ σ' H',N σ' H'→∃ m',m'<m∧W (i+1) m' σ' H')∧∀ x H',J.yld i H x H'→g x σ H' fun σ2 H2=>tb { D with nx:=N,ct:=N,bk:=D.nx } σ2 H2)
def j5 (fp:List Addr) (h:Heap):List (Addr×Obj):=fp.filterMap fun b=>(h.get? b).map fun o=>(b,o)
theorem fE {fp:List Addr} {h:Heap} {b:Addr} {o:Obj} (hb:b∈fp) (e:h.get? b=some o):(b,o)∈j5 fp h:=List.mem_filterMap.mpr ⟨b,hb,by rw [e];rfl⟩
theorem of_pinsAt {fp:List Addr} {h:Heap} {p:Addr×Obj} (hp:p∈j5 fp h):p.1∈fp∧h.get? p.1=some p.2:=by
 obtain ⟨b,hb,e⟩:=List.mem_filterMap.mp hp
 cases q:h.get? b with
 | none=>rw [q] at e;cases e
 | some o=>
  rw [q] at e
  have e':(b,o)=p:=Option.some.inj e
  subst e'
  exact ⟨hb,q⟩
theorem Inv.pinned {pins:List (Addr×Obj)} {σ:St} {H:Hp} {s:Shared} {fp:List Addr} (I:Inv X pins σ H s) (hf:∀ b∈fp,FpOk X pins H b) (ho:∀ b∈fp,∃ o,s.heap.get? b=some o∧∀ v,o.data≠.cell v):Inv X (pins++j5 fp s.heap) σ H s:=
 I.pins_of fun p hp=>(List.mem_append.mp hp).elim (fun z=>I.pin p (List.mem_append_right _ z)) fun z=>by
  obtain ⟨hb,e⟩:=of_pinsAt z
  obtain ⟨f0,f1,f2,_⟩:=hf p.1 hb
  obtain ⟨o,e',d⟩:=ho p.1 hb
  rw [e] at e';cases e'
  exact ⟨e,f0,f1,f2,d⟩
theorem Inv.unpinned {pins pl:List (Addr×Obj)} {σ:St} {H:Hp} {s:Shared} (I:Inv X (pins++pl) σ H s):Inv X pins σ H s:=I.pins_of fun p hp=>I.pin p (List.mem_append_right _ (List.mem_append_left _ hp))
theorem ps_for {iter:Expr} {body:List Stmt} {wi:TI} {g:TG} {tb:TS} {pos:Pos} (hp:PassesOwn (model X.prog X.w) X.A X.env X.xe) (hc:X.calm=true) (hi:PI X tg iter wi) (hg:PG X tg g) (hb:PSs X body tb)
  (hs:∀ x,foldedSetIterable iter X.env x=pure x:=by intro _;rfl):PS X (.For tg iter body [] pos) (tFor wi g tb):=by
 intro pins s σ H D I h
 refine wpAny_For (thn (hi pins s σ H _ I h) fun v s1 h1=>thn h1 fun itv s2 h2=>?_) hs
 obtain ⟨it,fp,tn,J,H2,e,I2,T,st2,f2,W,⟨m0,w0⟩,turn⟩:=h2
 subst e
 have stat:∀ {H':Hp},(∀ b∈fp,H' b=none)→∀ b∈fp,FpOk X pins H' b:=fun hn b hb=>⟨hn b hb,(f2 b hb).2⟩
 refine codeAny_forLoop_any (fun n s'=>∃ i σ' H',Inv X pins σ' H' s'∧tn i s'.heap∧(∀ b∈fp,H' b=none)∧W i n σ' H') ?_ m0 ⟨0,σ,H2,I2,st2,fun b hb=>(f2 b hb).1,w0⟩
 rintro n s3 ⟨i,σ3,H3,I3,st3,fr3,w3⟩
 rcases turn i n σ3 H3 w3 with ⟨stop,qn⟩ | ⟨go,N,hN,step⟩
 ·
  refine wpAny_passesOwn hp (thn (T.done X rfl rfl rfl hc i pins s3 σ3 H3 X.xe I3 (stat fr3) st3 stop) fun r s4 ⟨hr,I4⟩=>?_)
  subst hr
  exact wpAny_execs_nil ⟨σ3,H3,I4,qn⟩
 ·
  refine wpAny_passesOwn hp (thn (T.item X rfl rfl rfl hc i pins s3 σ3 H3 X.xe I3 (stat fr3) st3 go) fun r s4 ⟨u,hr,h4⟩=>?_)
  subst hr
  refine wpAny_passesOwn hp (thn h4 fun _ s5 ⟨x,H5,I5,r5,y5,st5,fr5⟩=>?_)
  have I5':=I5.pinned (stat fr5) (T.obj _ _ st5)
  refine wpAny_passesOwn hp (thn (hg _ s5 σ3 H5 x u _ I5' r5 (step x H5 y5)) fun _ s6 ⟨σ6,H6,I6,q6⟩=>?_)
  refine wpAny_passesOwn hp (thn (hb _ s6 σ6 H6 _ I6 q6) fun f s7 q7=>?_)
  have again:∀ {σ7:St} {H7:Hp},Inv X (pins++j5 fp s5.heap) σ7 H7 s7→N σ7 H7→∃ m,m<n∧∃ i σ' H',Inv X pins σ' H' s7∧tn i s7.heap∧(∀ b∈fp,H' b=none)∧W i m σ' H':=fun {σ7 H7} I7 n7=>by
   obtain ⟨m',hm,w7⟩:=hN σ7 H7 n7
   refine ⟨m',hm,i+1,σ7,H7,I7.unpinned,T.keep _ _ _ st5 fun b hb o e=>(I7.pin (b,o) (List.mem_append_right _ (List.mem_append_right _ (fE hb e)))).1,fun b hb=>?_,w7⟩
   obtain ⟨o,e,d⟩:=T.obj _ _ st5 b hb
   exact (I7.pin (b,o) (List.mem_append_right _ (List.mem_append_right _ (fE hb e)))).2.1
  cases f with
  | next=>obtain ⟨σ7,H7,I7,n7⟩:=q7;exact again I7 n7
  | cont=>obtain ⟨σ7,H7,I7,n7⟩:=q7;exact again I7 n7
  | brk=>obtain ⟨σ7,H7,I7,q7⟩:=q7;exact ⟨σ7,H7,I7.unpinned,q7⟩
  | ret v=>obtain ⟨x7,σ7,H7,I7,r7,q7⟩:=q7;exact ⟨x7,σ7,H7,I7.unpinned,r7,q7⟩
end
end L2
namespace L2
open PySem PySem.Spec PyProof.Rows
abbrev R2:=V→V→Hp→VK→Prop
def OpR (X:Cx) (f:Value→Value→Sem Value) (r:R2):Prop:=
 ∀ (pins:List (Addr×Obj)) (s:Shared) (σ:St) (H:Hp) (x y:V) (v u:Value) (Q:VK),Inv X pins σ H s→RelV x v→RelV y u→r x y H Q→
  wpAny (model X.prog X.w) X.A (f v u) (EP X pins σ Q) X.xe s
def UnR (X:Cx) (f:Value→Sem Value) (r:V→Hp→VK→Prop):Prop:=
 ∀ (pins:List (Addr×Obj)) (s:Shared) (σ:St) (H:Hp) (x:V) (v:Value) (Q:VK),Inv X pins σ H s→RelV x v→r x H Q→
  wpAny (model X.prog X.w) X.A (f v) (EP X pins σ Q) X.xe s
def ca (X:Cx) (f:Value) (r:List V→Hp→VK→Prop):Prop:=
 ∀ (pins:List (Addr×Obj)) (s:Shared) (σ:St) (H:Hp) (xs:List V) (us:List Value) (Q:VK),Inv X pins σ H s→aK xs us→r xs H Q→
  wpAny (model X.prog X.w) X.A (call f us) (EP X pins σ Q) X.xe s
def tOp (r:R2) (ta tb:TE):TE:=fun σ H Q=>ta σ H fun x H1=>tb σ H1 fun y H2=>r x y H2 Q
def tUn (r:V→Hp→VK→Prop) (ta:TE):TE:=fun σ H Q=>ta σ H fun x H1=>r x H1 Q
def rI (C:Int→Int→Prop) (g:Int→Int→V):R2:=fun x y H Q=>∃ i j,x=.int i∧y=.int j∧C i j∧Q (g i j) H
def rI0 (g:Int→Int→V):R2:=fun x y H Q=>∃ i j,x=.int i∧y=.int j∧Q (g i j) H
def rU (g:Int→V):V→Hp→VK→Prop:=fun x H Q=>∃ i,x=.int i∧Q (g i) H
section
variable {X:Cx} {a b c:Expr} {ta tb tc:TE} {pos:Pos}
theorem binT (ha:PE X a ta) (hb:PE X b tb) {pins:List (Addr×Obj)} {s:Shared} {σ:St} {H:Hp} {R:V→V→Hp→Prop} (I:Inv X pins σ H s)
  (h:ta σ H fun x H1=>tb σ H1 fun y H2=>R x y H2) {Q:Value→Shared→Prop} {f:Value→Value→Sem Value}
  (hf:∀ v u s2 x y H2,Inv X pins σ H2 s2→RelV x v→RelV y u→R x y H2→wpAny (model X.prog X.w) X.A (f v u) Q X.xe s2) :
  wpAny (model X.prog X.w) X.A (eval a X.env) (fun v s₁=>wpAny (model X.prog X.w) X.A (eval b X.env) (fun u s₂=>wpAny (model X.prog X.w) X.A (f v u) Q X.xe s₂) X.xe s₁) X.xe s:=by
 refine thn (ha pins s σ H _ I h) fun v s1 ⟨x,H1,I1,r1,q1⟩=>?_
 refine thn (hb pins s1 σ H1 _ I1 q1) fun u s2 ⟨y,H2,I2,r2,q2⟩=>?_
 exact hf v u s2 x y H2 I2 r1 r2 q2
theorem pe_op {op:Operator} {r:R2} (ho:OpR X (binaryOp op) r) (ha:PE X a ta) (hb:PE X b tb):PE X (.BinOp a op b pos) (tOp r ta tb):=by
 intro pins s σ H Q I h
 exact wpAny_BinOp (binT ha hb I h fun v u s2 x y H2 I2 rx ry q=>ho pins s2 σ H2 x y v u Q I2 rx ry q)
theorem pe_un {op:UnaryOp} {r:V→Hp→VK→Prop} (ho:UnR X (unaryOp op) r) (ha:PE X a ta):PE X (.UnaryOp op a pos) (tUn r ta):=by
 intro pins s σ H Q I h
 exact UnaryOp_ (thn (ha pins s σ H _ I h) fun v s1 ⟨x,H1,I1,r1,q1⟩=>ho pins s1 σ H1 x v Q I1 r1 q1)
theorem opI {f:Value→Value→Sem Value} {C:Int→Int→Prop} {g:Int→Int→Int}
  (rule:∀ (i j:Int) (t u:Tok) (s:Shared) (Q:Value→Shared→Prop) (E:Value→Shared→Prop),C i j→Q (.int (g i j) s.toks) { s with toks:=s.toks+1 }→wpAny (model X.prog X.w) X.A (f (.int i t) (.int j u)) Q E s) :
  OpR X f (rI C fun i j=>.int (g i j)):=by
 intro pins s σ H x y v u Q I rx ry h
 obtain ⟨i,j,rfl,rfl,hc,q⟩:=h
 obtain ⟨t,rfl⟩:=rx
 obtain ⟨t',rfl⟩:=ry
 exact rule i j t t' s _ _ hc ⟨.int (g i j),H,I.tok _,⟨_,rfl⟩,q⟩
theorem opI0 {f:Value→Value→Sem Value} {g:Int→Int→Int}
  (rule:∀ (i j:Int) (t u:Tok) (s:Shared) (Q:Value→Shared→Prop) (E:Value→Shared→Prop),Q (.int (g i j) s.toks) { s with toks:=s.toks+1 }→wpAny (model X.prog X.w) X.A (f (.int i t) (.int j u)) Q E s) :
  OpR X f (rI0 fun i j=>.int (g i j)):=by
 intro pins s σ H x y v u Q I rx ry h
 obtain ⟨i,j,rfl,rfl,q⟩:=h
 obtain ⟨t,rfl⟩:=rx
 obtain ⟨t',rfl⟩:=ry
 exact rule i j t t' s _ _ ⟨.int (g i j),H,I.tok _,⟨_,rfl⟩,q⟩
theorem opB0 {f:Value→Value→Sem Value} {g:Int→Int→Bool}
  (rule:∀ (i j:Int) (t u:Tok) (s:Shared) (Q:Value→Shared→Prop) (E:Value→Shared→Prop),Q (.bool (g i j)) s→wpAny (model X.prog X.w) X.A (f (.int i t) (.int j u)) Q E s) :
  OpR X f (rI0 fun i j=>.bl (g i j)):=by
 intro pins s σ H x y v u Q I rx ry h
 obtain ⟨i,j,rfl,rfl,q⟩:=h
 obtain ⟨t,rfl⟩:=rx
 obtain ⟨t',rfl⟩:=ry
 exact rule i j t t' s _ _ ⟨.bl (g i j),H,I,rfl,q⟩
def CMul (i j:Int):Prop:=(-(2 ^ 64)<i∧i<2 ^ 64)∨(-(2 ^ 64)<j∧j<2 ^ 64)
theorem CMul.ok {i j:Int} (h:CMul i j):IntMulOk i j:=by
 rcases h with ⟨h1,h2⟩ | ⟨h1,h2⟩
 ·
  exact .of_left (intBits_le_64 h1 h2)
 ·
  exact .of_right (intBits_le_64 h1 h2)
theorem op_add:OpR X (binaryOp .Add) (rI0 fun i j=>.int (i+j)):=opI0 fun _ _ _ _ _ _ _ q=>add_int q
theorem op_sub:OpR X (binaryOp .Sub) (rI0 fun i j=>.int (i-j)):=opI0 fun _ _ _ _ _ _ _ q=>sub_int q
theorem op_mul:OpR X (binaryOp .Mult) (rI CMul fun i j=>.int (i*j)):=opI fun _ _ _ _ _ _ _ hc q=>mul_int q hc.ok
theorem op_mod:OpR X (binaryOp .Mod) (rI (fun _ j=>0<j) fun i j=>.int (i % j)):=opI fun i j _ _ _ _ _ hc q=>by
 have h1:(0:Int)<j:=hc
 exact mod_int' (by omega) (by rw [Int.fmod_eq_emod_of_nonneg i (by omega)];exact q)
theorem unI {f:Value→Sem Value} {g:Int→Int}
  (rule:∀ (i:Int) (t:Tok) (s:Shared) (Q:Value→Shared→Prop) (E:Value→Shared→Prop),Q (.int (g i) s.toks) { s with toks:=s.toks+1 }→wpAny (model X.prog X.w) X.A (f (.int i t)) Q E s) :
  UnR X f (rU fun i=>.int (g i)):=by
 intro pins s σ H x v Q I rx h
 obtain ⟨i,rfl,q⟩:=h
 obtain ⟨t,rfl⟩:=rx
 exact rule i t s _ _ ⟨.int (g i),H,I.tok _,⟨_,rfl⟩,q⟩
theorem un_neg:UnR X (unaryOp .USub) (rU fun i=>.int (-i)):=unI fun _ _ _ _ _ q=>neg_int q
end
section
variable {X:Cx} {a b c:Expr} {ta tb tc:TE} {pos:Pos}
theorem fin_bl {pins:List (Addr×Obj)} {σ:St} {H:Hp} {s:Shared} {Q:VK} {k k':Bool} (I:Inv X pins σ H s) (q:Q (.bl k) H) (e:k=k'):EP X pins σ Q (.bool k') s:=by
 subst e
 exact ⟨.bl k,H,I,rfl,q⟩
theorem op_lt:OpR X (compareOp .Lt) (rI0 fun i j=>.bl (decide (i<j))):=opB0 fun _ _ _ _ _ _ _ q=>lt_int q
theorem op_le:OpR X (compareOp .LtE) (rI0 fun i j=>.bl (decide (i≤j))):=opB0 fun _ _ _ _ _ _ _ q=>le_int q
theorem op_gt:OpR X (compareOp .Gt) (rI0 fun i j=>.bl (decide (j<i))):=opB0 fun _ _ _ _ _ _ _ q=>gt_int q
theorem j6 (b:Expr) {op:CmpOp} (h:op≠.In:=by decide) (h2:op≠.NotIn:=by decide):behindInMarks op b=false:=by
 have e1:(op==CmpOp.In)=false:=by cases op <;> first | rfl | exact absurd rfl h
 have e2:(op==CmpOp.NotIn)=false:=by cases op <;> first | rfl | exact absurd rfl h2
 cases b <;> simp [behindInMarks,e1,e2]
theorem pe_cmpR {op:CmpOp} {r:R2} (ho:OpR X (compareOp op) r) (ha:PE X a ta) (hb:PE X b tb) (hm:behindInMarks op b=false):PE X (.Compare a [op] [b] pos) (tOp r ta tb):=by
 intro pins s σ H Q I h
 exact wpAny_Compare1 (binT ha hb I h fun v u s2 x y H2 I2 rx ry q=>ho pins s2 σ H2 x y v u Q I2 rx ry q) hm
def tTest (t:TE):TT:=fun σ H Q=>t σ H fun x H'=>∃ k,x=.bl k∧Q k H'
theorem pt_cmpR {op:CmpOp} {r:R2} (ho:OpR X (compareOp op) r) (ha:PE X a ta) (hb:PE X b tb) (hm:behindInMarks op b=false):PT X (.Compare a [op] [b] pos) (tTest (tOp r ta tb)):=by
 intro pins s σ H Q I h
 refine wpAny_isTrue_Compare1 (thn (ha pins s σ H _ I h) fun v s1 ⟨x,H1,I1,r1,q1⟩=>thn (hb pins s1 σ H1 _ I1 q1) fun u s2 ⟨y,H2,I2,r2,q2⟩=>
  thn (ho pins s2 σ H2 x y v u _ I2 r1 r2 q2) fun c s3 ⟨z,H3,I3,r3,k,e,q3⟩=>?_) hm
 subst e
 cases r3
 exact wpAny_truthy_bool ⟨H3,I3,q3⟩
def tChain (r r':R2) (ta tb tc:TE):TE:=fun σ H Q=>ta σ H fun x H1=>tb σ H1 fun y H2=>r x y H2 fun z H3=>∃ k,z=.bl k∧
 (if k=true then tc σ H3 fun w' H4=>r' y w' H4 Q else Q (.bl false) H3)
theorem pe_chain {op op':CmpOp} {r r':R2} (ho:OpR X (compareOp op) r) (ho':OpR X (compareOp op') r') (ha:PE X a ta) (hb:PE X b tb) (hc:PE X c tc)
  (hm:lastMarks [op,op'] [b,c]=false:=by with_unfolding_all rfl):PE X (.Compare a [op,op'] [b,c] pos) (tChain r r' ta tb tc):=by
 intro pins s σ H Q I h
 refine Compare_chain (thn (ha pins s σ H _ I h) fun v s1 ⟨x,H1,I1,r1,q1⟩=>chain_link (thn (hb pins s1 σ H1 _ I1 q1) fun u s2 ⟨y,H2,I2,r2,q2⟩=>
  thn (ho pins s2 σ H2 x y v u _ I2 r1 r2 q2) fun d s3 ⟨z,H3,I3,r3,k,e,q3⟩=>?_)) hm
 subst e
 cases r3
 refine wpAny_truthy_bool ?_
 cases k with
 | false=>exact ite_ff ⟨.bl false,H3,I3,rfl,q3⟩
 | true=>exact ite_tt (chain_last (thn (hc pins s3 σ H3 _ I3 q3) fun w' s4 ⟨z',H4,I4,r4,q4⟩=>ho' pins s4 σ H4 y z' u w' Q I4 r2 r4 q4))
theorem pt_chain {op op':CmpOp} {r r':R2} (ho:OpR X (compareOp op) r) (ho':OpR X (compareOp op') r') (ha:PE X a ta) (hb:PE X b tb) (hc:PE X c tc)
  (hm:lastMarks [op,op'] [b,c]=false:=by with_unfolding_all rfl):PT X (.Compare a [op,op'] [b,c] pos) (tTest (tChain r r' ta tb tc)):=by
 intro pins s σ H Q I h
 refine isTrue_chain (thn (ha pins s σ H _ I h) fun v s1 ⟨x,H1,I1,r1,q1⟩=>test_link (thn (hb pins s1 σ H1 _ I1 q1) fun u s2 ⟨y,H2,I2,r2,q2⟩=>
  thn (ho pins s2 σ H2 x y v u _ I2 r1 r2 q2) fun d s3 ⟨z,H3,I3,r3,k,e,q3⟩=>?_)) hm
 subst e
 cases r3
 refine wpAny_truthy_bool ?_
 cases k with
 | false=>
  obtain ⟨k',e',q'⟩:=q3
  cases e'
  exact ite_ff ⟨H3,I3,q'⟩
 | true=>
  refine ite_tt (test_last (thn (hc pins s3 σ H3 _ I3 q3) fun w' s4 ⟨z',H4,I4,r4,q4⟩=>thn (ho' pins s4 σ H4 y z' u w' _ I4 r2 r4 q4) fun d' s5 ⟨z2,H5,I5,r5,k2,e2,q5⟩=>?_))
  subst e2
  cases r5
  exact wpAny_truthy_bool ⟨H5,I5,q5⟩
theorem lw:(sizeLine:Nat)<2 ^ 63:=by rw [sizeLine_eq];decide
theorem nN:OpR X (binaryOp .Add) (fun x y H Q=>∃ i j,x=.str i∧y=.str j∧i.length+j.length≤sizeLine∧Q (.str (i++j)) H):=by
 intro pins s σ H x y v u Q I rx ry h
 obtain ⟨i,j,rfl,rfl,hz,q⟩:=h
 obtain ⟨t,rfl⟩:=rx
 obtain ⟨t',rfl⟩:=ry
 exact add_str (fun t' tk=>⟨.str (i++j),H,I.tok _,⟨_,rfl⟩,q⟩) hz
theorem vals1 {x:V} {us:List Value} (r:aK [x] us):∃ u,us=[u]∧RelV x u:=by
 cases r with
 | cons r1 r2=>cases r2;exact ⟨_,rfl,r1⟩
theorem vals2 {x y:V} {us:List Value} (r:aK [x,y] us):∃ u w',us=[u,w']∧RelV x u∧RelV y w':=by
 cases r with
 | cons r1 r2=>
  cases r2 with
  | cons r3 r4=>cases r4;exact ⟨_,_,rfl,r1,r3⟩
theorem call_max2 (hc:X.calm=true):ca X (.builtin "max") (fun xs H Q=>∃ i j,xs=[.int i,.int j]∧Q (.int (if j>i then j else i)) H):=by
 intro pins s σ H xs us Q I r h
 obtain ⟨i,j,rfl,q⟩:=h
 obtain ⟨u,w',rfl,⟨t,rfl⟩,⟨t',rfl⟩⟩:=vals2 r
 refine max_two_ints (I.ok.hd hc) fun h' tk k=>⟨_,H,I.kept k,?_,q⟩
 by_cases hj:j>i
 ·
  rw [if_pos hj,if_pos hj];exact ⟨_,rfl⟩
 ·
  rw [if_neg hj,if_neg hj];exact ⟨_,rfl⟩
theorem call_min2 (hc:X.calm=true):ca X (.builtin "min") (fun xs H Q=>∃ i j,xs=[.int i,.int j]∧Q (.int (if j<i then j else i)) H):=by
 intro pins s σ H xs us Q I r h
 obtain ⟨i,j,rfl,q⟩:=h
 obtain ⟨u,w',rfl,⟨t,rfl⟩,⟨t',rfl⟩⟩:=vals2 r
 refine min_two_ints (I.ok.hd hc) fun h' tk k=>⟨_,H,I.kept k,?_,q⟩
 by_cases hj:j<i
 ·
  rw [if_pos hj,if_pos hj];exact ⟨_,rfl⟩
 ·
  rw [if_neg hj,if_neg hj];exact ⟨_,rfl⟩
end
end L2
namespace L2
open PySem PySem.Spec PyProof.Rows
structure ObjM (h:Heap) (x dx C:Addr) (mA:Str→Option Value):Prop where
 obj:h.get? x=some (PySem.W.instObj C dx)
 ns:h.Ns1 dx mA
 ne:dx≠x
theorem lookIn_ns {h:Heap} {dx:Addr} {mA:Str→Option Value} (n:h.Ns1 dx mA):∃ od,h.get? dx=some od∧∀ name,PySem.W.lookIn name od=some (mA name):=by
 obtain ⟨o,es,ep,ho,hd,hk,_,hm⟩:=n
 refine ⟨o,ho,fun name=>?_⟩
 have e:=hm name
 unfold nsFind findBy at e
 rw [←Array.find?_toList] at e
 unfold PySem.W.lookIn
 rw [hd]
 dsimp only
 split
 ·
  rename_i y q
  rw [q] at e
  exact congrArg some e
 ·
  rename_i q
  rw [q] at e
  have a:es.toList.any (·.refKey)=false:=by
   rw [List.any_eq_false]
   intro y hy
   obtain ⟨z,t,hkey⟩:=hk y (Array.mem_toList_iff.mp hy)
   simp [DictEntry.refKey,hkey]
  have a':¬es.toList.any (·.refKey)=true:=by rw [a];exact Bool.false_ne_true
  rw [if_neg a']
  exact congrArg some e
theorem ObjM.look {h:Heap} {x dx C:Addr} {mA:Str→Option Value} (I:ObjM h x dx C mA):∃ od,PySem.W.InstAt h x (PySem.W.instObj C dx) C (some od)∧∀ name,PySem.W.lookIn name od=some (mA name):=
 let ⟨od,ho,hl⟩:=lookIn_ns I.ns
 ⟨od,⟨I.obj,rfl,rfl,ho⟩,hl⟩
section
variable {prog:Program} {w:World} {A:Around} {E:Value→Shared→Prop} {s:Shared} {K:PySem.W.Frag} {x dx C f:Addr} {mA:Str→Option Value} {name:Str} {v:Value}
theorem get_map {expr:Bool} {Q:Value→Shared→Prop} (X:K.In s.heap) (I:ObjM s.heap x dx C mA) (hg:PySem.W.plainGet K C name=true) (hh:PySem.W.hasDictIn K C=true)
  (ha:PySem.W.findIn K (.ref C) name=some none) (hv:mA name=some v) (hv':PySem.W.handedIn v=true) (h:Q v { s with toks:=s.toks+1 }) :
  wpAny (model prog w) A (getAttr (.ref x) name expr) Q E s:=by
 obtain ⟨od,J,hl⟩:=I.look
 exact PySem.W.get_value X J (PySem.W.plainGet_of hg).1 (PySem.W.findObj_own hh ha rfl (by rw [hl,hv])) hv' h
theorem get_meth {pl:Sem Bool} {Q:Value×List Value→Shared→Prop} (X:K.In s.heap) (I:ObjM s.heap x dx C mA) (hg:PySem.W.plainGet K C name=true)
  (hf:PySem.W.findIn K (.ref C) name=some (some (.ref f))) (ht:PySem.W.isFn K (.ref f)=true) (hv:mA name=none) (h:Q (.ref f,[.ref x]) s) :
  wpAny (model prog w) A (getMethod (.ref x) name pl) Q E s:=by
 obtain ⟨od,J,hl⟩:=I.look
 exact PySem.W.method_fn X J (PySem.W.plainGet_of hg).1 (PySem.W.plainGet_of hg).2 hf (beq_iff_eq.mp ht) (by show (PySem.W.lookIn name od).map (·.isSome)=some false;rw [hl,hv];rfl) h
theorem set_map {ns:List Str} {Q:Unit→Shared→Prop} (X:K.In s.heap) (I:ObjM s.heap x dx C mA)
  (hs:PySem.W.findIn K (.ref C) "__setattr__" = some (some (.builtin "object.__setattr__"))) (hp:PySem.W.plainOver K C=true) (ht:PySem.W.takerIn K C name=some none) (hh:PySem.W.hasDictIn K C=true)
  (hw:PySem.Within mA ns) (hsz:ns.length≤sizeLine)
  (h:∀ h',ObjM h' x dx C (fun y=>if y=name then some v else mA y)→Heap.SameBut dx s.heap h'→Q () { s with heap:=h',toks:=s.toks+2 }) :
  wpAny (model prog w) A (setAttr (.ref x) name v) Q E s:=by
 obtain ⟨od,J,hl⟩:=I.look
 refine PySem.W.set_plain X J hs (PySem.W.osa_open (s:={ s with toks:=s.toks+1 }) (r:=none) X J hp ht fun b=>?_)
 obtain ⟨cd,hc,hd'⟩:=PySem.W.any_some hh
 have hx:s.heap.get? x=some ⟨.ref C,some dx,.plain,#[]⟩:=I.obj
 refine wpAny_bind (wpAny_pure (wpAny_bind (wpAny_bind (wpAny_loadPart hx (wpAny_bind (PySem.W.Looks.here (s:={ s with toks:=s.toks+1 }) (PySem.W.looks_clsIn X hc) ?_))))))
 rw [hd']
 refine wpAny_pure (a:=some dx) (wpAny_bind (wpAny_pure (wpAny_bind ?_)))
 refine wpAny_nsSet1 (s:={ s with toks:=s.toks+1 }) I.ns fun h' hn2 hs2=>?_
 obtain ⟨oD,esD,epD,hoD,hdD,hcD⟩:=hn2.count (PySem.Within.cons name v hw)
 refine wpAny_bind (wpAny_lookBehind hoD (by rw [hdD];exact pastItsLine_dict (Nat.le_trans hcD (by rw [List.length_cons];omega))) ?_)
 exact wpAny_pure (h _ ⟨(hs2.2 _ (Ne.symm I.ne)).trans I.obj,hn2,I.ne⟩ hs2)
theorem make_map {R:Result→Shared→Prop} {vs:List Value} {kw:List (Str×Value)} (X:K.In s.heap) (hm:PySem.W.makesIn K C=true)
  (hi:PySem.W.findIn K (.ref C) "__init__" = some (some (.ref f))) (hf:PySem.W.typeIn K (.ref f)=some (.type "function"))
  (h:codeAny (model prog w) (A.under (.builtin "type.__call__" ⟨.ref C::vs,kw⟩)) (.call (.ref f) ⟨.ref (s.heap.objs.size+1)::vs,kw⟩) (PySem.W.InitBack (s.heap.objs.size+1) R)
   { s with heap:=(s.heap.push PySem.W.emptyDict).push (PySem.W.instObj C s.heap.objs.size) }) :
  codeAny (model prog w) A (.call (.ref C) ⟨vs,kw⟩) R s:=by
 obtain ⟨hh,g,d,t,os⟩:=s
 exact PySem.W.make_core (PySem.W.makes_of X hm) (PySem.W.looks_findIn X hi) (fun self=>PySem.W.bind_fn X self hf) (.inl rfl) h
end
def gk (f:Str) (v:V):List (Str×V)→List (Str×V)
  | []=>[(f,v)]
  | (g,x)::r=>if g=f then (g,v)::r else (g,x)::gk f v r
theorem jt (f g:Str) (v:V):∀ fs:List (Str×V),(gk f v fs).lookup g=if g=f then some v else fs.lookup g
  | []=>by
    show List.lookup g [(f,v)]=_
    by_cases h:g=f
    · have hb:(g==f)=true:=beq_iff_eq.mpr h
      simp only [List.lookup,hb,if_pos h]
    · have hb:(g==f)=false:=beq_eq_false_iff_ne.mpr h
      simp only [List.lookup,hb,if_neg h]
  | (k,x)::r=>by
    have ih:=jt f g v r
    rw [show gk f v ((k,x)::r)=(if k=f then (k,v)::r else (k,x)::gk f v r) from rfl]
    by_cases hk:k=f
    · rw [if_pos hk]
      by_cases h:g=k
      · have hb:(g==k)=true:=beq_iff_eq.mpr h
        simp only [List.lookup,hb,if_pos (h.trans hk)]
      · have hb:(g==k)=false:=beq_eq_false_iff_ne.mpr h
        simp only [List.lookup,hb,if_neg (fun e:g=f=>h (e.trans hk.symm))]
    · rw [if_neg hk]
      by_cases h:g=k
      · have hb:(g==k)=true:=beq_iff_eq.mpr h
        simp only [List.lookup,hb,if_neg (fun e:g=f=>hk (h.symm.trans e))]
      · have hb:(g==k)=false:=beq_eq_false_iff_ne.mpr h
        simp only [List.lookup,hb]
        exact ih
theorem iV (f:Str) (v:V):∀ fs:List (Str×V),f∈(gk f v fs).map (·.1)∧∀ g,g∈fs.map (·.1)→g∈(gk f v fs).map (·.1)
  | []=>⟨by simp [gk],fun g h=>by simp at h⟩
  | (k,x)::r=>by
    obtain ⟨i1,i2⟩:=iV f v r
    rw [show gk f v ((k,x)::r)=(if k=f then (k,v)::r else (k,x)::gk f v r) from rfl]
    by_cases hk:k=f
    · rw [if_pos hk]
      subst hk
      exact ⟨by simp,fun g h=>by simpa using h⟩
    · rw [if_neg hk]
      refine ⟨?_,fun g h=>?_⟩
      · rw [List.map_cons]
        exact List.mem_cons_of_mem _ i1
      · rw [List.map_cons] at h ⊢
        rcases List.mem_cons.mp h with e | e
        · exact List.mem_cons.mpr (.inl e)
        · exact List.mem_cons_of_mem _ (i2 g e)
theorem ju (f:Str) (v:V):∀ fs:List (Str×V),(gk f v fs).length≤fs.length+1
  | []=>by simp [gk]
  | (k,x)::r=>by
    have ih:=ju f v r
    rw [show gk f v ((k,x)::r)=(if k=f then (k,v)::r else (k,x)::gk f v r) from rfl]
    by_cases hk:k=f
    · rw [if_pos hk,List.length_cons,List.length_cons];omega
    · rw [if_neg hk,List.length_cons,List.length_cons];omega
theorem RelO.some_of {v:V} {o:Option Value} (r:RelO (some v) o):∃ u,o=some u∧RelV v u:=by
 cases o with
 | none=>exact (show False from r).elim
 | some u=>exact ⟨u,rfl,r⟩
theorem RelO.none_of {o:Option Value} (r:RelO none o):o=none:=by
 cases o with
 | none=>rfl
 | some u=>exact (show False from r).elim
theorem handed_of {v:V} {u:Value} (r:RelV v u):PySem.W.handedIn u=true:=by
 cases v with
 | non=>cases (show u=Value.none from r);rfl
 | bl b=>cases (show u=Value.bool b from r);rfl
 | int i=>obtain ⟨t,e⟩:=(show ∃ t,u=Value.int i t from r);cases e;rfl
 | str x=>obtain ⟨t,e⟩:=(show ∃ t,u=Value.str x t from r);cases e;rfl
 | byt b=>obtain ⟨t,e⟩:=(show ∃ t,u=Value.bytes b t from r);cases e;rfl
 | flt b=>obtain ⟨t,e⟩:=(show ∃ t,u=Value.float b t from r);cases e;rfl
 | ref a=>cases (show u=Value.ref a from r);rfl
 | ty n=>cases (show u=Value.type n from r);rfl
section
variable {P:Program} {w:World} {H H':Hp} {h h':Heap} {a C dx:Addr} {fs fs':List (Str×V)}
theorem jT (hok:HOk P w H h) (e:H a=some (.ins C dx fs)):∃ mA,ObjM h a dx C mA∧(∀ f,RelO (fs.lookup f) (mA f))∧PySem.Within mA (fs.map (·.1))∧fs.length≤1000∧H dx=some (.own a):=by
 obtain ⟨d,z,ne,ob,mA,n,r,q⟩:=(show cA P w H h a (.ins C dx fs) from hok a _ e)
 exact ⟨mA,⟨ob,n,ne⟩,r,q,z,d⟩
end
structure Cls (K:PySem.W.Frag) (C:Addr):Prop where
 pg:PySem.W.plainGet K C Str.empty=true
 hd:PySem.W.hasDictIn K C=true
 po:PySem.W.plainOver K C=true
 sa:PySem.W.findIn K (.ref C) "__setattr__" = some (some (.builtin "object.__setattr__"))
theorem Cls.get {K:PySem.W.Frag} {C:Addr} (c:Cls K C) (f:Str):PySem.W.plainGet K C f=true:=c.pg
def NoAttr (K:PySem.W.Frag) (C:Addr) (f:Str):Prop:=PySem.W.findIn K (.ref C) f=some none
theorem NoAttr.taker {K:PySem.W.Frag} {C:Addr} {f:Str} (n:NoAttr K C f):PySem.W.takerIn K C f=some none:=by
 unfold PySem.W.takerIn
 rw [show PySem.W.findIn K (.ref C) f=some none from n]
 rfl
structure Meth (K:PySem.W.Frag) (C:Addr) (m:Str) (f:Addr):Prop where
 at_:PySem.W.findIn K (.ref C) m=some (some (.ref f))
 fn:PySem.W.isFn K (.ref f)=true
 kp:PySem.W.keepIn K (.ref f)=true
section
variable {X:Cx} {pins:List (Addr×Obj)} {σ:St} {H:Hp} {s:Shared} {a C dx:Addr} {fs:List (Str×V)} {f:Str} {v:V} {A:Around} {E:Value→Shared→Prop}
theorem nO {b:Bool} {Q:Value→Shared→Prop} (I:Inv X pins σ H s) (e:H a=some (.ins C dx fs)) (c:Cls X.K C) (n:NoAttr X.K C f) (l:fs.lookup f=some v)
  (h:∀ u s',Inv X pins σ H s'→RelV v u→Q u s'):wpAny (model X.prog X.w) A (getAttr (.ref a) f b) Q E s:=by
 obtain ⟨mA,O,r,_,_,_⟩:=jT I.hok e
 obtain ⟨u,hu,ru⟩:=RelO.some_of (v:=v) (o:=mA f) (by rw [←l];exact r f)
 exact get_map I.kIn O (c.get f) c.hd n hu (handed_of ru) (h u _ (I.tok _) ru)
theorem g9 {m:Str} {g:Addr} {pl:Sem Bool} {Q:Value×List Value→Shared→Prop} (I:Inv X pins σ H s) (e:H a=some (.ins C dx fs)) (c:Cls X.K C) (k:Meth X.K C m g) (l:fs.lookup m=none)
  (h:Q (.ref g,[.ref a]) s):wpAny (model X.prog X.w) A (getMethod (.ref a) m pl) Q E s:=by
 obtain ⟨mA,O,r,_,_,_⟩:=jT I.hok e
 have hn:mA m=none:=RelO.none_of (by rw [←l];exact r m)
 exact get_meth I.kIn O (c.get m) k.at_ k.fn hn h
theorem nP {y:V} {u:Value} {Q:Unit→Shared→Prop} (I:Inv X pins σ H s) (e:H a=some (.ins C dx fs)) (c:Cls X.K C) (n:NoAttr X.K C f) (hl:fs.length<1000) (ry:RelV y u)
  (h:∀ s',Inv X pins σ (upd H a (.ins C dx (gk f y fs))) s'→Q () s'):wpAny (model X.prog X.w) A (setAttr (.ref a) f u) Q E s:=by
 obtain ⟨mA,O,r,wi,_,ho⟩:=jT I.hok e
 have hz:(fs.map (·.1)).length≤sizeLine:=by rw [List.length_map,sizeLine_eq];omega
 refine set_map I.kIn O c.sa c.po n.taker c.hd wi hz fun h' O' sb=>h _ ?_
 have hd:∃ o,h'.get? dx=some o:=let ⟨o,_,_,e',_⟩:=O'.ns;⟨o,e'⟩
 refine I.write (x:=a) (e:=dx) (by rw [e];exact True.intro) (.inr ho) (fun b q hb z=>(sb.2 b hb).trans z) hd ?_
 refine ⟨by rw [aA O.ne];exact ho,?_,O.ne,O'.obj,_,O'.ns,fun g=>?_,fun g hg=>?_⟩
 ·
  have:=ju f y fs;omega
 ·
  show RelO ((gk f y fs).lookup g) (if g=f then some u else mA g)
  rw [jt]
  by_cases q:g=f
  ·
   rw [if_pos q,if_pos q];exact ry
  ·
   rw [if_neg q,if_neg q];exact r g
 ·
  by_cases q:g=f
  ·
   rw [q];exact (iV f y fs).1
  ·
   refine (iV f y fs).2 g (wi g fun z=>hg ?_)
   show (if g=f then some u else mA g)=none
   rw [if_neg q];exact z
theorem Inv.made (I:Inv X pins σ H s):Inv X pins σ (upd (upd H s.heap.objs.size (.own (s.heap.objs.size+1))) (s.heap.objs.size+1) (.ins C s.heap.objs.size []))
  { s with heap:=(s.heap.push PySem.W.emptyDict).push (PySem.W.instObj C s.heap.objs.size) }:=by
 have e1:(s.heap.push PySem.W.emptyDict).get? s.heap.objs.size=some PySem.W.emptyDict:=Heap.get?_push_size s.heap rfl
 have e2:((s.heap.push PySem.W.emptyDict).push (PySem.W.instObj C s.heap.objs.size)).get? (s.heap.objs.size+1)=some (PySem.W.instObj C s.heap.objs.size):=by
  have:=Heap.get?_push_size (s.heap.push PySem.W.emptyDict) (o:=PySem.W.instObj C s.heap.objs.size) rfl
  rwa [Heap.size_push] at this
 have e3:(s.heap.push PySem.W.emptyDict).Ns s.heap.objs.size (fun _=>none):=⟨PySem.W.emptyDict,#[],_,e1,rfl,(fun e he=>absurd he (by simp)),fun _=>rfl⟩
 have I1:=I.laid (a:=s.heap.objs.size) (o:=.own (s.heap.objs.size+1)) (h':=s.heap.push PySem.W.emptyDict) (t':=s.toks) (fun b u q=>Heap.get?_push_of_some _ q) (Nat.le_refl _) ⟨_,e1⟩
 refine I1.laid (a:=s.heap.objs.size+1) (o:=.ins C s.heap.objs.size []) (t':=s.toks) (fun b u q=>Heap.get?_push_of_some _ q) (Nat.le_of_eq (Heap.size_push _ _)) ?_
 have ne:s.heap.objs.size≠s.heap.objs.size+1:=Nat.ne_of_lt (Nat.lt_succ_self _)
 refine ⟨by rw [aA ne,ax],Nat.zero_le _,ne,e2,fun _=>none,(Heap.Ns1.of_empty e3).at fun o q=>Heap.get?_push_of_some _ q,fun _=>True.intro,fun y hy=>absurd rfl hy⟩
theorem attr_of {prog:Program} {w:World} {env:Env} {e:Expr} {f:Str} {pos:Pos} {s:Shared} {Q:Value→Shared→Prop} (hb:attributeBase e f env (eval e env)=eval e env)
  (h:wpAny (model prog w) A (eval e env) (fun o s₁=>wpAny (model prog w) A (getAttr o f true) Q E s₁) E s):wpAny (model prog w) A (eval (.Attribute e f pos) env) Q E s:=
 Attribute_any_ h (by rw [arm_eval_Attribute,hb])
end
def tFld (K:PySem.W.Frag) (ta:TE) (f:Str):TE:=fun σ H Q=>ta σ H fun x H1=>∃ a C dx fs v,x=.ref a∧H1 a=some (.ins C dx fs)∧Cls K C∧NoAttr K C f∧fs.lookup f=some v∧Q v H1
def sFld (K:PySem.W.Frag) (ta tv:TE) (f:Str):TS:=fun D σ H=>tv σ H fun y H1=>ta σ H1 fun x H2=>∃ a C dx fs,x=.ref a∧H2 a=some (.ins C dx fs)∧Cls K C∧NoAttr K C f∧fs.length<1000∧
 D.nx σ (upd H2 a (.ins C dx (gk f y fs)))
section
variable {X:Cx} {o e value:Expr} {f:Str} {pos pos' tpos:Pos} {ta tv:TE}
theorem pe_fld (he:PE X e ta) (hb:attributeBase e f X.env (eval e X.env)=eval e X.env):PE X (.Attribute e f pos) (tFld X.K ta f):=by
 intro pins s σ H Q I h
 refine attr_of hb (thn (he pins s σ H _ I h) fun u s1 ⟨x,H1,I1,rx,a,C,dx,fs,v,ex,ea,c,n,l,q⟩=>?_)
 subst ex
 obtain rfl:u=Value.ref a:=rx
 exact nO I1 ea c n l fun u' s2 I2 ru=>⟨v,H1,I2,ru,q⟩
theorem ps_fld (ha:PE X o ta) (hv:PE X value tv) (hs:swapsWith value (some (.Attribute o f pos')) pos.line X.env=pure false):PS X (.Assign [.Attribute o f pos'] value pos) (sFld X.K ta tv f):=by
 intro pins s σ H D I h
 refine plainObj_wpAny_Assign_Attribute (thn (hv pins s σ H _ I h) fun u s1 ⟨y,H1,I1,ry,q⟩=>thn (ha pins s1 σ H1 _ I1 q) fun ov s2 ⟨x,H2,I2,rx,a,C,dx,fs,ex,ea,c,n,l,q2⟩=>?_) hs
 subst ex
 obtain rfl:ov=Value.ref a:=rx
 exact nP I2 ea c n l ry fun s3 I3=>⟨σ,_,I3,q2⟩
theorem methcall_of {pl:Sem Bool} {m:Str} {apos:Pos} {args:List Expr} {pins:List (Addr×Obj)} {s:Shared} {σ:St} {H:Hp} {Q:Value→Shared→Prop} {te:TE} (he:PE X e te) (I:Inv X pins σ H s)
  (h:te σ H fun x H1=>∃ a C dx fs g,x=.ref a∧H1 a=some (.ins C dx fs)∧Cls X.K C∧Meth X.K C m g∧fs.lookup m=none∧
   ∀ s1,Inv X pins σ H1 s1→wpAny (model X.prog X.w) X.A (callWith pos (.ref g) [.ref a] (backTo pos (starEach args X.env)) (backToKw pos (keywordEach [] X.env))) Q X.xe s1)
  (ht:eval (.Call (.Attribute e m apos) args [] pos) X.env=(do
   let ov ←eval e X.env
   standAt apos.atName
   let (f,first) ←holding [ov] (getMethod ov m pl)
   callWith pos f first (backTo pos (starEach args X.env)) (backToKw pos (keywordEach [] X.env)))) :
  wpAny (model X.prog X.w) X.A (eval (.Call (.Attribute e m apos) args [] pos) X.env) Q X.xe s:=by
 refine PySem.W.methodCall_KW (pl:=pl) (thn (he pins s σ H _ I h) fun u s1 ⟨x,H1,I1,rx,a,C,dx,fs,g,ex,ea,c,k,l,q⟩=>?_) ht
 subst ex
 obtain rfl:u=Value.ref a:=rx
 exact g9 I1 ea c k l (q s1 I1)
end
section
variable {X:Cx} {pins:List (Addr×Obj)} {σ:St} {H:Hp} {s:Shared} {A:Around} {E:Value→Shared→Prop} {Q:Value→Shared→Prop} {c:Value} {b:Bool}
inductive ii (K:PySem.W.Frag) (H:Hp):V→Value→Prop where
 | non:ii K H .non (.type "NoneType")
 | bl (x:Bool):ii K H (.bl x) (.type "bool")
 | int (i:Int):ii K H (.int i) (.type "int")
 | str (x:Str):ii K H (.str x) (.type "str")
 | flt (x:UInt64):ii K H (.flt x) (.type "float")
 | lst {a:Addr} {xs:List V} (e:H a=some (.lst xs)):ii K H (.ref a) (.type "list")
 | frz {a:Addr} {o:Obj} {xs:List V} (e:H a=some (.frz o (.lst xs))):ii K H (.ref a) (.type "list")
 | tup {a:Addr} {xs:List V} (e:H a=some (.tup xs)):ii K H (.ref a) (.type "tuple")
 | dK {a:Addr} {kvs:List (Key×V)} (e:H a=some (.dK kvs)):ii K H (.ref a) (.type "dict")
 | dT {a:Addr} {kvs:List (List Key×V)} (e:H a=some (.dT kvs)):ii K H (.ref a) (.type "dict")
 | ins {a C dx:Addr} {fs:List (Str×V)} (e:H a=some (.ins C dx fs)) (cl:Cls K C) (ha:PySem.W.findIn K (.ref C) "__class__" = some (some (.builtin "object.__class__")))
  (hn:PySem.W.specialIn K (.builtin "object.__class__") "__get__" = some (some (.builtin "getset_descriptor.__get__"))) (htk:PySem.W.takesIn K (.builtin "object.__class__")=some true)
  (hm:PySem.W.mroIn K C (.type "object")=some true):ii K H (.ref a) (.ref C)
theorem isinst_ok {x:V} {u t:Value} (I:Inv X pins σ H s) (rx:RelV x u) (ty:ii X.K H x t) (e:PySem.W.kitOne X.K t c=some b) (h:∀ tk,Q (.bool b) { s with toks:=tk }) :
  wpAny (model X.prog X.w) A (call (.builtin "isinstance") [u,c]) Q E s:=by
 cases ty with
 | non=>cases (show u=Value.none from rx);exact PySem.W.kia_one PySem.W.kitx_none I.kIn True.intro e (fun z=>nomatch z) h
 | bl y=>cases (show u=Value.bool y from rx);exact PySem.W.kia_one PySem.W.kitx_bool I.kIn True.intro e (fun z=>nomatch z) h
 | int i=>obtain ⟨t,q⟩:=(show ∃ t,u=Value.int i t from rx);cases q;exact PySem.W.kia_one PySem.W.kitx_int I.kIn True.intro e (fun z=>nomatch z) h
 | str y=>obtain ⟨t,q⟩:=(show ∃ t,u=Value.str y t from rx);cases q;exact PySem.W.kia_one PySem.W.kitx_str I.kIn True.intro e (fun z=>nomatch z) h
 | flt y=>obtain ⟨t,q⟩:=(show ∃ t,u=Value.float y t from rx);cases q;exact PySem.W.kia_one PySem.W.kitx_float I.kIn True.intro e (fun z=>nomatch z) h
 | @lst a xs ea=>
  cases (show u=Value.ref a from rx)
  obtain ⟨_,_,n,_,h1⟩:=(show cA X.prog X.w H s.heap a (.lst xs) from I.hok a _ ea)
  exact PySem.W.kia_one PySem.W.kitx_list I.kIn ⟨_,h1,rfl⟩ e (fun z=>nomatch z) h
 | @frz a ob xs ea=>
  cases (show u=Value.ref a from rx)
  obtain ⟨_,_,_,n,_,h1⟩:=(show cA X.prog X.w H s.heap a (.frz ob (.lst xs)) from I.hok a _ ea)
  exact PySem.W.kia_one PySem.W.kitx_list I.kIn ⟨_,h1,rfl⟩ e (fun z=>nomatch z) h
 | @tup a xs ea=>
  cases (show u=Value.ref a from rx)
  obtain ⟨_,_,_,p⟩:=(show cA X.prog X.w H s.heap a (.tup xs) from I.hok a _ ea)
  obtain ⟨o,h1,h2,_⟩:=p
  exact PySem.W.kia_one PySem.W.kitx_tuple I.kIn ⟨o,h1,h2⟩ e (fun z=>nomatch z) h
 | @dK a kvs ea=>
  cases (show u=Value.ref a from rx)
  obtain ⟨_,_,vs,_,p⟩:=(show cA X.prog X.w H s.heap a (.dK kvs) from I.hok a _ ea)
  obtain ⟨o,es,ep,h1,h2,_⟩:=p
  exact PySem.W.kia_one PySem.W.kitx_dict I.kIn ⟨o,h1,h2.1⟩ e (fun z=>nomatch z) h
 | @dT a kvs ea=>
  cases (show u=Value.ref a from rx)
  obtain ⟨_,_,xs,_,o,es,ep,h1,h2,_⟩:=(show cA X.prog X.w H s.heap a (.dT kvs) from I.hok a _ ea)
  exact PySem.W.kia_one PySem.W.kitx_dict I.kIn ⟨o,h1,h2.1⟩ e (fun z=>nomatch z) h
 | @ins a C dx fs ea cl ha hn htk hm=>
  cases (show u=Value.ref a from rx)
  obtain ⟨mA,O,_⟩:=jT I.hok ea
  obtain ⟨od,J,_⟩:=O.look
  exact PySem.W.kia_one (PySem.W.kitx_own (cl.get _) cl.hd ha hn htk hm) I.kIn J e (fun z=>nomatch z) h
end
end L2
namespace L2
open PySem PySem.Spec PyProof.Rows
structure bq (k:Nat) (A:Around):Prop where
 hd:A.handled=none
 dp:A.depth+3*k+5<recursionLimit
 un:A.units+16*k+200<cLine
theorem bq.mono {j k:Nat} {A:Around} (r:bq k A) (h:j≤k):bq j A:=⟨r.hd,by have:=r.dp;omega,by have:=r.un;omega⟩
theorem bq.deeper {k:Nat} {A:Around} (r:bq (k+1) A) (env:Env):bq k (A.deeper env):=
 ⟨r.hd,by have:=r.dp;show A.depth+1+3*k+5<_;omega,by have:=r.un;show A.units+3+16*k+200<_;omega⟩
theorem nQ {A:Around} {C:Addr} {us:List Value} {kw:List (Str×Value)}:(A.under (.builtin "type.__call__" ⟨.ref C::us,kw⟩)).depth=A.depth+1:=by
 first | rfl | simp [Around.under,Code.weight,Code.isCreation,Code.isGuard,Code.isCaller,Code.frames,Code.isFrame,guardIds]
theorem nR {A:Around} {C:Addr} {us:List Value} {kw:List (Str×Value)}:(A.under (.builtin "type.__call__" ⟨.ref C::us,kw⟩)).units=A.units+1:=by
 first | rfl | simp [Around.under,Code.cUnits,Code.frames,Code.isFrame]
theorem bq.make {k:Nat} {A:Around} (r:bq (k+1) A) (C:Addr) (us:List Value) (kw:List (Str×Value)):bq k (A.under (.builtin "type.__call__" ⟨.ref C::us,kw⟩)):=
 ⟨r.hd,by have:=r.dp;rw [nQ];omega,by have:=r.un;rw [nR];omega⟩
theorem bq.depth {k:Nat} {A:Around} (r:bq k A):A.depth<recursionLimit:=by have:=r.dp;omega
def tNil:TA:=fun _ H Q=>Q [] H
def tCons (ta:TE) (tr:TA):TA:=fun σ H Q=>ta σ H fun x H1=>tr σ H1 fun xs H2=>Q (x::xs) H2
section
variable {X:Cx} {e:Expr} {es:List Expr} {te:TE} {t:TA} {pos:Pos}
theorem dY:PA X [] tNil:=fun _ _ _ _ H Q I h=>Calls.spliced_nil ⟨[],H,I,.nil,h⟩
theorem bZ (ha:PE X e te) (hr:PA X es t) (hs:starEach (e::es) X.env=(false,eval e X.env)::starEach es X.env:=by rfl):PA X (e::es) (tCons te t):=by
 intro pos pins s σ H Q I h
 rw [hs]
 show wpAny _ _ (spliced ((false,eval e X.env)::backTo pos (starEach es X.env))) _ _ s
 refine Calls.spliced_cons (thn (ha pins s σ H _ I h) fun u s1 ⟨x,H1,I1,r1,q1⟩=>?_)
 exact thn (hr pos pins s1 σ H1 _ I1 q1) fun us s2 ⟨xs,H2,I2,r2,q2⟩=>⟨x::xs,H2,I2,.cons r1 r2,q2⟩
def tTup (t:TA):TE:=fun σ H Q=>t σ H fun xs H1=>xs.length≤sizeLine∧∀ p,H1 p=none→Q (.ref p) (upd H1 p (.tup xs))
def tLst (t:TA):TE:=fun σ H Q=>t σ H fun xs H1=>xs.length≤sizeLine∧∀ p,H1 p=none→Q (.ref p) (upd H1 p (.lst xs))
theorem pe_tup {x1} (h:PA X es t):PE X (.Tuple es x1 pos) (tTup t):=by
 intro pins s σ H Q I hq
 refine wpAny_Tuple_spliced (thn (h pos pins s σ H _ I hq) fun us s1 ⟨xs,H1,I1,r,z,q⟩=>⟨by rw [←r.length];exact z,?_⟩)
 have hf:H1 s1.heap.objs.size=none:=I1.hok.fresh (Nat.le_refl _)
 refine ⟨.ref s1.heap.objs.size,upd H1 s1.heap.objs.size (.tup xs),I1.laid (t':=s1.toks) (fun b u e=>Heap.get?_push_of_some _ e) (Nat.le_refl _) ?_,rfl,q _ hf⟩
 exact ⟨z,us,r,⟨_,Heap.get?_push_size _ rfl,rfl,_,rfl⟩⟩
theorem pe_lst (h:PA X es t):PE X (.List es pos) (tLst t):=by
 intro pins s σ H Q I hq
 refine wpAny_List_spliced (thn (h pos pins s σ H _ I hq) fun us s1 ⟨xs,H1,I1,r,z,q⟩=>⟨by rw [←r.length];exact z,?_⟩)
 have hf:H1 s1.heap.objs.size=none:=I1.hok.fresh (Nat.le_refl _)
 refine ⟨.ref s1.heap.objs.size,upd H1 s1.heap.objs.size (.lst xs),I1.laid (t':=s1.toks) (fun b u e=>Heap.get?_push_of_some _ e) (Nat.le_refl _) ?_,rfl,q _ hf⟩
 exact ⟨z,us,0,r,Heap.get?_push_size _ rfl⟩
end
abbrev Sp:=List V→Hp→VK→XK→Prop
abbrev CXT:=List Env→Hp→Shared→XK→Value→Shared→Prop
structure Env0 (P:Program) (w:World) (K:PySem.W.Frag) (mg:Str→Option Value) (base:Heap) (A:Around) (outer:List Env) (s:Shared) (H:Hp):Prop where
 frames:A.frames=some outer
 mod:Mod K mg base
 bs:∀ b o,base.get? b=some o→s.heap.get? b=some o∧H b=none
 bsz:base.objs.size≤s.heap.objs.size
 funs:s.heap.FunFrames base outer
 frf:∀ b∈frs outer,H b=none
 hok:HOk P w H s.heap
 bare:AllBare s.gens
def CE (outer:List Env) (P:Program) (w:World) (H:Hp) (s:Shared) (Q:VK) (u:Value) (s':Shared):Prop:=
 ∃ v H',s'.os=s.os∧AllBare s'.gens∧Un (frs outer) [] H H' s.heap s'.heap∧HOk P w H' s'.heap∧RelV v u∧Q v H'
def CR (CX:CXT) (outer:List Env) (P:Program) (w:World) (H:Hp) (s:Shared) (Q:VK) (E:XK) (r:Result) (s':Shared):Prop:=
 match r with
 | .ok (.ret u)=>CE outer P w H s Q u s'
 | .ok _=>False
 | .error e=>CX outer H s E e s'
structure dL (P:Program) (w:World) (K:PySem.W.Frag) (mg:Str→Option Value) (base:Heap) (CX:CXT) (k:Nat) (f:Addr) (fd:FuncData) (ps:List Str) (sp:Sp):Prop where
 len:∀ vs H Q E,sp vs H Q E→vs.length=ps.length
 run:∀ (A:Around) (outer:List Env) (s:Shared) (H:Hp) (args:Args) (us:List Value) (vs:List V) (Q:VK) (E:XK),bq k A→Env0 P w K mg base A outer s H→BindsTo s fd args (ps.zip us)→aK vs us→sp vs H Q E→
  codeAny (model P w) A (.call (.ref f) args) (CR CX outer P w H s Q E) s
theorem dL.imp {P:Program} {w:World} {K:PySem.W.Frag} {mg:Str→Option Value} {base:Heap} {CX:CXT} {k:Nat} {f:Addr} {fd:FuncData} {ps:List Str} {sp sp':Sp} (F:dL P w K mg base CX k f fd ps sp)
  (h:∀ vs H Q E,sp' vs H Q E→sp vs H Q E):dL P w K mg base CX k f fd ps sp':=
 ⟨fun vs H Q E q=>F.len vs H Q E (h _ _ _ _ q),fun A outer s H args us vs Q E hr he hb hv hs=>F.run A outer s H args us vs Q E hr he hb hv (h _ _ _ _ hs)⟩
theorem Env0.make {P:Program} {w:World} {K:PySem.W.Frag} {mg:Str→Option Value} {base:Heap} {A:Around} {outer:List Env} {s:Shared} {H:Hp} (e:Env0 P w K mg base A outer s H) (C:Addr) (us:List Value) (kw:List (Str×Value)) :
 Env0 P w K mg base (A.under (.builtin "type.__call__" ⟨.ref C::us,kw⟩)) outer s H:=⟨by first | exact e.frames | (simpa [Around.under,Code.envs,Code.isFrame,pushEnvs] using e.frames),e.mod,e.bs,e.bsz,e.funs,e.frf,e.hok,e.bare⟩
section
variable {X:Cx} {pins:List (Addr×Obj)} {σ:St} {H:Hp} {s s':Shared}
theorem Inv.env0 (I:Inv X pins σ H s):Env0 X.prog X.w X.K X.mg X.base X.A X.stack s H:=
 ⟨I.ok.frames,I.ok.mod,I.bs,Nat.le_trans I.ok.bsz I.sz,I.stack,I.stkFree,I.hok,I.bare⟩
theorem Inv.after {Q:VK} {u:Value} (I:Inv X pins σ H s) (h:CE X.stack X.prog X.w H s Q u s'):EP X pins σ Q u s':=by
 obtain ⟨v,H',os,bare,un,hok,r,q⟩:=h
 obtain ⟨hh,g,d,t,os'⟩:=s'
 obtain rfl:os'=s.os:=os
 exact ⟨v,H',I.call (h':=hh) (g':=g) (d':=d) (t':=t) (ch:=[]) un hok bare (fun b z=>absurd z (by simp)),r,q⟩
end
def tCall (sp:Sp) (dvs:List V) (E:XK) (t:TA):TE:=fun σ H Q=>t σ H fun vs H1=>sp (vs++dvs) H1 Q E
def tMeth (C:Addr) (m:Str) (sp:Sp) (dvs:List V) (E:XK) (ta:TE) (t:TA):TE:=fun σ H Q=>ta σ H fun x H1=>∃ a dx fs,x=.ref a∧H1 a=some (.ins C dx fs)∧fs.lookup m=none∧
 t σ H1 fun vs H2=>sp (x::(vs++dvs)) H2 Q E
def tMake (C:Addr) (sp:Sp) (dvs:List V) (E:XK) (t:TA):TE:=fun σ H Q=>t σ H fun vs H1=>∀ x dx,H1 x=none→H1 dx=none→dx≠x→
 sp (.ref x::(vs++dvs)) (upd (upd H1 dx (.own x)) x (.ins C dx [])) (fun v H2=>v=.non∧Q (.ref x) H2) E
def Binds (K:PySem.W.Frag) (fd:FuncData) (ps:List Str) (ds:List Value):Prop:=
 ∀ (s:Shared) (us:List Value),K.In s.heap→(us++ds).length=ps.length→BindsTo s fd ⟨us,[]⟩ (ps.zip (us++ds))
theorem Binds.all {K:PySem.W.Frag} {fd:FuncData} {ps:List Str} (h:∀ us:List Value,us.length=ps.length→bindArgs fd ⟨us,[]⟩=pure (ps.zip us)):Binds K fd ps []:=fun s us _ hl=>by
 rw [List.append_nil] at hl ⊢
 exact .of_eq (h us hl)
def hE (CX:CXT) (X:Cx) (E:XK):Prop:=∀ (pins:List (Addr×Obj)) (σ:St) (H:Hp) (s:Shared) (e:Value) (s':Shared),Inv X pins σ H s→CX X.stack H s E e s'→X.xe e s'
section
variable {X:Cx} {CX:CXT} {k:Nat} {f C:Addr} {fd:FuncData} {ps:List Str} {sp:Sp} {dvs:List V} {ds:List Value} {E:XK} {x m:Str} {p pos apos:Pos} {e o:Expr} {es:List Expr} {ta:TE} {t:TA}
theorem run_fn {pins:List (Addr×Obj)} {σ:St} {H:Hp} {s:Shared} {Q:VK} {us:List Value} {vs:List V} (F:dL X.prog X.w X.K X.mg X.base CX k f fd ps sp) (hr:bq k X.A) (hb:Binds X.K fd ps ds) (hd:aK dvs ds) (hx:hE CX X E)
  (I:Inv X pins σ H s) (r:aK vs us) (h:sp (vs++dvs) H Q E):wpAny (model X.prog X.w) X.A (call (.ref f) us) (EP X pins σ Q) X.xe s:=by
 have r2:aK (vs++dvs) (us++ds):=r.append hd
 have hl:(us++ds).length=ps.length:=by rw [←r2.length];exact F.len _ _ _ _ h
 refine wpAny_call (codeAny_mono (F.run X.A X.stack s H ⟨us,[]⟩ (us++ds) (vs++dvs) Q E hr I.env0 (hb s us I.kIn hl) r2 h) fun r s' hq=>?_)
 cases r with
 | error e=>exact hx pins σ H s e s' I hq
 | ok fl=>
  cases fl with
  | ret u=>exact I.after hq
  | next=>exact False.elim hq
  | brk=>exact False.elim hq
  | cont=>exact False.elim hq
theorem lx (F:dL X.prog X.w X.K X.mg X.base CX k f fd ps sp) (hr:bq k X.A) (hg:Gl X x) (hm:X.mg x=some (.ref f)) (hk:PySem.W.keepIn X.K (.ref f)=true) (hb:Binds X.K fd ps ds) (hd:aK dvs ds) (hx:hE CX X E)
  (ha:PA X (e::es) t) (hdb:(x==("__debug__" : Str))=false:=by decide) (he:starEach (e::es) X.env=(false,eval e X.env)::starEach es X.env:=by rfl) (hpl:(backTo pos (starEach es X.env)).any (·.1)=false:=by rfl) :
  PE X (.Call (.Name x p) (e::es) [] pos) (tCall sp dvs E t):=by
 intro pins s σ H Q I h
 refine wpAny_Call_Name_kw (lr I hg hm ?_ hdb)
 refine PySem.W.callWith_K (h₀:=X.base) I.ok.mod.kin hk (thn (ha pos pins s σ H _ I h) fun us s1 ⟨vs,H1,I1,r,q⟩=>⟨I1.kIn,?_⟩) he hpl
 exact run_fn F hr hb hd hx I1 r q
theorem pe_meth {pl:Sem Bool} (he:PE X o ta) (c:Cls X.K C) (hm:Meth X.K C m f) (F:dL X.prog X.w X.K X.mg X.base CX k f fd ps sp) (hr:bq k X.A) (hb:Binds X.K fd ps ds) (hd:aK dvs ds) (hx:hE CX X E) (ha:PA X (e::es) t)
  (hst:starEach (e::es) X.env=(false,eval e X.env)::starEach es X.env:=by rfl) (hpl:(backTo pos (starEach es X.env)).any (·.1)=false:=by rfl)
  (ht:eval (.Call (.Attribute o m apos) (e::es) [] pos) X.env=(do
   let ov ←eval o X.env
   standAt apos.atName
   let (f,first) ←holding [ov] (getMethod ov m pl)
   callWith pos f first (backTo pos (starEach (e::es) X.env)) (backToKw pos (keywordEach [] X.env))):=by rfl) :
  PE X (.Call (.Attribute o m apos) (e::es) [] pos) (tMeth C m sp dvs E ta t):=by
 intro pins s σ H Q I h
 refine PySem.W.methodCall_KW (pl:=pl) (thn (he pins s σ H _ I h) fun u s1 ⟨x,H1,I1,rx,a,dx,fs,ex,ea,l,q⟩=>?_) ht
 subst ex
 obtain rfl:u=Value.ref a:=rx
 refine g9 I1 ea c hm l ?_
 refine PySem.W.callWith_K (first:=[.ref a]) (h₀:=X.base) I.ok.mod.kin hm.kp (thn (ha pos pins s1 σ H1 _ I1 q) fun us s2 ⟨vs,H2,I2,r,q2⟩=>⟨I2.kIn,?_⟩) hst hpl
 exact run_fn (us:=.ref a::us) (vs:=.ref a::vs) F hr hb hd hx I2 (.cons rfl r) q2
theorem pe_meth0 {pl:Sem Bool} (he:PE X o ta) (c:Cls X.K C) (hm:Meth X.K C m f) (F:dL X.prog X.w X.K X.mg X.base CX k f fd ps sp) (hr:bq k X.A) (hb:Binds X.K fd ps ds) (hd:aK dvs ds) (hx:hE CX X E)
  (ht:eval (.Call (.Attribute o m apos) [] [] pos) X.env=(do
   let ov ←eval o X.env
   standAt apos.atName
   let (f,first) ←holding [ov] (getMethod ov m pl)
   callWith pos f first (backTo pos (starEach [] X.env)) (backToKw pos (keywordEach [] X.env))):=by rfl) :
  PE X (.Call (.Attribute o m apos) [] [] pos) (tMeth C m sp dvs E ta tNil):=by
 intro pins s σ H Q I h
 refine PySem.W.methodCall_KW (pl:=pl) (thn (he pins s σ H _ I h) fun u s1 ⟨x,H1,I1,rx,a,dx,fs,ex,ea,l,q⟩=>?_) ht
 subst ex
 obtain rfl:u=Value.ref a:=rx
 refine g9 I1 ea c hm l ?_
 exact PySem.W.callWith_K0 (first:=[.ref a]) I1.kIn hm.kp (run_fn (us:=[.ref a]) (vs:=[.ref a]) F hr hb hd hx I1 (.cons rfl .nil) q)
structure Mk (K:PySem.W.Frag) (C f:Addr):Prop where
 makes:PySem.W.makesIn K C=true
 init:PySem.W.findIn K (.ref C) "__init__" = some (some (.ref f))
 fn:PySem.W.isFn K (.ref f)=true
 kp:PySem.W.keepIn K (.ref C)=true
theorem run_make {pins:List (Addr×Obj)} {σ:St} {H:Hp} {s:Shared} {Q:VK} {us:List Value} {vs:List V} (M:Mk X.K C f) (F:dL X.prog X.w X.K X.mg X.base CX k f fd ps sp) (hr:bq (k+1) X.A) (hb:Binds X.K fd ps ds) (hd:aK dvs ds)
  (hx:hE CX X E) (I:Inv X pins σ H s) (r:aK vs us)
  (h:∀ x dx,H x=none→H dx=none→dx≠x→sp (.ref x::(vs++dvs)) (upd (upd H dx (.own x)) x (.ins C dx [])) (fun v H2=>v=.non∧Q (.ref x) H2) E) :
  wpAny (model X.prog X.w) X.A (call (.ref C) us) (EP X pins σ Q) X.xe s:=by
 have hq:=h (s.heap.objs.size+1) s.heap.objs.size (I.hok.fresh (Nat.le_succ _)) (I.hok.fresh (Nat.le_refl _)) (Nat.ne_of_lt (Nat.lt_succ_self _))
 have I2:=Inv.made (C:=C) I
 have r2:aK (V.ref (s.heap.objs.size+1)::(vs++dvs)) (Value.ref (s.heap.objs.size+1)::(us++ds)):=.cons rfl (r.append hd)
 have hl:(Value.ref (s.heap.objs.size+1)::us++ds).length=ps.length:=by
  have e:=r2.length
  rw [F.len _ _ _ _ hq] at e
  exact e.symm
 refine wpAny_call (make_map (f:=f) I.kIn M.makes M.init (beq_iff_eq.mp M.fn) (codeAny_mono (F.run _ X.stack _ _ ⟨Value.ref (s.heap.objs.size+1)::us,[]⟩ (Value.ref (s.heap.objs.size+1)::(us++ds)) _ _ E (hr.make C us [])
  (I2.env0.make C us []) (hb _ (Value.ref (s.heap.objs.size+1)::us) I2.kIn hl) r2 hq) fun r s' hq'=>?_))
 cases r with
 | error e=>exact hx pins σ _ _ e s' I2 hq'
 | ok fl=>
  cases fl with
  | ret u=>
   obtain ⟨v,H',I3,rv,ev,q3⟩:=I2.after hq'
   subst ev
   exact ⟨rv,⟨V.ref (s.heap.objs.size+1),H',I3,rfl,q3⟩⟩
  | next=>exact False.elim hq'
  | brk=>exact False.elim hq'
  | cont=>exact False.elim hq'
theorem pe_make (M:Mk X.K C f) (F:dL X.prog X.w X.K X.mg X.base CX k f fd ps sp) (hr:bq (k+1) X.A) (hg:Gl X x) (hm:X.mg x=some (.ref C)) (hb:Binds X.K fd ps ds) (hd:aK dvs ds) (hx:hE CX X E)
  (ha:PA X (e::es) t) (hdb:(x==("__debug__" : Str))=false:=by decide) (he:starEach (e::es) X.env=(false,eval e X.env)::starEach es X.env:=by rfl) (hpl:(backTo pos (starEach es X.env)).any (·.1)=false:=by rfl) :
  PE X (.Call (.Name x p) (e::es) [] pos) (tMake C sp dvs E t):=by
 intro pins s σ H Q I h
 refine wpAny_Call_Name_kw (lr I hg hm ?_ hdb)
 refine PySem.W.callWith_K (h₀:=X.base) I.ok.mod.kin M.kp (thn (ha pos pins s σ H _ I h) fun us s1 ⟨vs,H1,I1,r,q⟩=>⟨I1.kIn,?_⟩) he hpl
 exact run_make M F hr hb hd hx I1 r q
end
structure dM (N P:List Str) (sc:Scope):Prop where
 kind:sc.kind=.function
 co:sc.isCoroutine=false
 gen:sc.isGenerator=false
 nd:N.Nodup
 pre:N.take P.length=P
 par:∀ x∈P,sc.names.lookup x=some .local∨sc.names.lookup x=some .cell
 nofree:∀ y∈sc.names,y.2≠.free
theorem kS {kindOf:Str→Option NameKind} {x:Str}:∀ {binds:List (Str×Value)} {m:Str→Option Value},(∀ v,(x,v)∉binds)→bindL kindOf binds m x=m x
  | [],_,_=>rfl
  | (n,v)::r,m,h=>by
    unfold bindL
    rw [kS fun w hw=>h w (List.mem_cons_of_mem _ hw)]
    split
    · have:x≠n:=by rintro rfl;exact h v List.mem_cons_self
      simp [this]
    · rfl
theorem kT {kindOf:Str→Option NameKind} {x:Str}:∀ {binds:List (Str×Value)} {m:Str→Option Value},(∀ v,(x,v)∉binds)→bindC kindOf binds m x=m x
  | [],_,_=>rfl
  | (n,v)::r,m,h=>by
    unfold bindC
    rw [kT fun w hw=>h w (List.mem_cons_of_mem _ hw)]
    split
    · rfl
    · have:x≠n:=by rintro rfl;exact h v List.mem_cons_self
      simp [this]
theorem kU {kindOf:Str→Option NameKind} {x:Str} {v:Value}:∀ {P:List Str} {vs:List Value} {i:Nat} {m:Str→Option Value},P.Nodup→P[i]?=some x→vs[i]?=some v→kindOf x=some .local→
  bindL kindOf (P.zip vs) m x=some v
 | [],_,_,_,_,h,_,_=>by simp at h
 | _::_,[],_,_,_,_,h,_=>by simp at h
 | p::P,w::vs,0,m,nd,h1,h2,hk=>by
  simp at h1 h2;subst h1;subst h2
  show bindL kindOf ((p,w)::P.zip vs) m p=_
  unfold bindL
  rw [kS fun v hv=>(List.nodup_cons.mp nd).1 (List.of_mem_zip hv).1,if_pos hk]
  simp
 | p::P,w::vs,i+1,m,nd,h1,h2,hk=>by
  show bindL kindOf ((p,w)::P.zip vs) m x=_
  unfold bindL
  exact kU (i:=i) (List.nodup_cons.mp nd).2 (by simpa using h1) (by simpa using h2) hk
theorem kW {kindOf:Str→Option NameKind} {x:Str} {v:Value}:∀ {P:List Str} {vs:List Value} {i:Nat} {m:Str→Option Value},P.Nodup→P[i]?=some x→vs[i]?=some v→kindOf x≠some .local→
  bindC kindOf (P.zip vs) m x=some v
 | [],_,_,_,_,h,_,_=>by simp at h
 | _::_,[],_,_,_,_,h,_=>by simp at h
 | p::P,w::vs,0,m,nd,h1,h2,hk=>by
  simp at h1 h2;subst h1;subst h2
  show bindC kindOf ((p,w)::P.zip vs) m p=_
  unfold bindC
  rw [kT fun v hv=>(List.nodup_cons.mp nd).1 (List.of_mem_zip hv).1,if_neg hk]
  simp
 | p::P,w::vs,i+1,m,nd,h1,h2,hk=>by
  show bindC kindOf ((p,w)::P.zip vs) m x=_
  unfold bindC
  exact kW (i:=i) (List.nodup_cons.mp nd).2 (by simpa using h1) (by simpa using h2) hk
def start (N:List Str) (vs:List V):St:=vs.map some++List.replicate (N.length-vs.length) none
def jJ (CX:CXT) (P:Program) (w:World) (K:PySem.W.Frag) (mg:Str→Option Value) (base:Heap) (N:List Str) (qual:Str) (scope:Scope) (f:Addr) (cd:Value) (A:Around) (outer:List Env) (s:Shared) (H:Hp) (E:XK):Cx where
 prog:=P
 w:=w
 K:=K
 mg:=mg
 base:=base
 A:=A.deeper (envOfC qual scope s.heap.objs.size f cd)
 N:=N
 s₀:=s
 H₀:=H
 env:=envOfC qual scope s.heap.objs.size f cd
 outer:=outer
 stack:=envOfC qual scope s.heap.objs.size f cd::outer
 ex:=[]
 calm:=true
 fn:=fun _=>true
 pn:=[]
 xe:=fun e s'=>wpAny (model P w) (A.deeper (envOfC qual scope s.heap.objs.size f cd)) (leaving (envOfC qual scope s.heap.objs.size f cd) e) (fun _ s''=>CX outer H s E e s'') (fun e' s''=>CX outer H s E e' s'') s'
theorem mv {sc:Scope} {n:Nat} {x:Str} (h:sc.names.lookup x=some .cell):∃ c,(cellsFrom n sc.names []).lookup x=some c:=by
 have q:=PySem.W.cellsFrom_some sc.names n [] (.inl h)
 exact Option.isSome_iff_exists.mp q
theorem inv_start {CX:CXT} {P:Program} {w:World} {K:PySem.W.Frag} {mg:Str→Option Value} {base:Heap} {N ps:List Str} {qual:Str} {scope:Scope} {f:Addr} {cd:Value} {A:Around} {outer:List Env} {s s1:Shared} {H:Hp} {E:XK} {us:List Value} {vs:List V}
  (S:dM N ps scope) (hd:A.handled=none) (e0:Env0 P w K mg base A outer s H) (hl:vs.length=ps.length) (r:aK vs us)
  (x:InCallC s s.heap.objs.size (bindL (envOfC qual scope s.heap.objs.size f cd).kindOf (ps.zip us) fun _=>none) (cellsFrom (s.heap.objs.size+1) scope.names []) (bindC (envOfC qual scope s.heap.objs.size f cd).kindOf (ps.zip us) fun _=>none) s1) :
  Inv (jJ CX P w K mg base N qual scope f cd A outer s H E) [] (start N vs) H s1:=by
 have hpl:ps.length≤N.length:=by have:=congrArg List.length S.pre;rw [List.length_take] at this;omega
 obtain ⟨h1,tk,rfl,hk⟩:=x.done
 have noA:∀ b:Addr,b∉(jJ CX P w K mg base N qual scope f cd A outer s H E).ex:=fun b z=>absurd (show b∈([]:List Addr) from z) (by simp)
 refine ⟨⟨e0.mod,S.kind,rfl,rfl,Nat.le_refl _,fun y z c h1 h2=>?_,fun y hy=>?_,fun y c _ h=>?_,fun _=>hd,Around.frames_deeper e0.frames,.inr ⟨rfl,rfl⟩,fun b z=>absurd z (noA b),e0.bs,e0.bsz,fun b _ _=>noA b,fun b z=>absurd z (noA b),e0.funs,e0.frf⟩,
  rfl,e0.bare,Un.kept hk,⟨_,x.toInCall.ns,fun i y v h1 h2 h3=>?_⟩,fun y c h=>⟨_,x.cell y c h⟩,e0.hok.fresh (Nat.le_refl _),fun y c h=>?_,fun p hp=>absurd (show p∈([]:List (Addr×Obj)) from hp) (by simp),e0.hok.kept hk,?_⟩
 ·
  exact name_of_addr x.apart (PySem.mem_of_lookup h1) (PySem.mem_of_lookup h2)
 ·
  have hy:scope.names.lookup y=some .cell∨scope.names.lookup y=some .free:=hy
  rcases hy with hy | hy
  ·
   exact mv hy
  ·
   exact absurd rfl (S.nofree _ (PySem.mem_of_lookup hy))
 ·
  exact Nat.le_of_lt (x.above y c (PySem.mem_of_lookup h))
 ·
  have hi:i<vs.length:=by
   unfold start at h2
   by_cases hi:i<vs.length
   ·
    exact hi
   ·
    rw [List.getElem?_append_right (by simpa using hi)] at h2
    rw [List.getElem?_replicate] at h2
    split at h2 <;> cases h2
  have ha:vs[i]?=some v:=by
   unfold start at h2
   rw [List.getElem?_append_left (by simpa using hi),List.getElem?_map] at h2
   cases e:vs[i]? with
   | none=>rw [e] at h2;cases h2
   | some a=>rw [e] at h2;cases h2;rfl
  obtain ⟨u,hu,rv⟩:=r.get ha
  have hp:ps[i]?=some y:=by
   rw [←S.pre,List.getElem?_take_of_lt (by omega)];exact h1
  have ndP:ps.Nodup:=by rw [←S.pre];exact S.nd.sublist (List.take_sublist _ _)
  refine ⟨u,rv,?_⟩
  rcases S.par y (List.mem_of_getElem? hp) with k | k
  ·
   exact .inl ⟨k,kU ndP hp hu k⟩
  ·
   obtain ⟨c,e⟩:=mv (n:=s.heap.objs.size+1) k
   refine .inr ⟨.inl k,c,e,?_⟩
   have q:=x.cell y c e
   rw [kW ndP hp hu (by show scope.names.lookup y≠_;rw [k];decide)] at q
   exact q
 ·
  exact e0.hok.fresh (Nat.le_of_lt (x.above y c (PySem.mem_of_lookup h)))
 ·
  unfold start
  show _=N.length
  rw [List.length_append,List.length_map,List.length_replicate]
  omega
theorem fn_of {CX:CXT} {P:Program} {w:World} {K:PySem.W.Frag} {mg:Str→Option Value} {base:Heap} {k:Nat} {f:Addr} {name qual:Str} {params:Arguments} {body:List Stmt} {scope:Scope} {dV kV doc pm cdv ct oc:Value} {an od:Option Addr}
  {osl:Array (Option Value)} {N ps:List Str} {sp:Sp} (lk:K.lookup f=some ⟨oc,od,.func (PySem.W.fnOf name qual params body scope dV kV doc pm an cdv ct),osl⟩) (hcd:PySem.W.codeIn K cdv qual=true) (S:dM N ps scope)
  (len:∀ vs H Q E,sp vs H Q E→vs.length=ps.length)
  (hbody:∀ (A:Around) (outer:List Env) (s:Shared) (H:Hp) (vs:List V) (Q:VK) (E:XK),bq k (A.deeper (envOfC qual scope s.heap.objs.size f cdv))→sp vs H Q E→
   ∃ t,PSs (jJ CX P w K mg base N qual scope f cdv A outer s H E) body t∧t { nx:=fun _ H'=>Q .non H',rt:=Q } (start N vs) H) :
  dL P w K mg base CX (k+1) f (PySem.W.fnOf name qual params body scope dV kV doc pm an cdv ct) ps sp:=by
 refine ⟨len,fun A outer s H args us vs Q E hr e0 hb r hsp=>?_⟩
 have hl:=len _ _ _ _ hsp
 have KX:K.In s.heap:=e0.mod.kin.keeps fun b o e=>(e0.bs b o e).1
 have lim:s.heap.NoLimit:=e0.mod.nolimit.keeps fun b o e=>(e0.bs b o e).1
 have hkind:∀ y∈ps.zip us,scope.names.lookup y.1=some .local∨(scope.names.lookup y.1=some .cell∧((cellsFrom (s.heap.objs.size+1) scope.names []).lookup y.1).isSome=true):=fun ⟨n,v⟩ hy=>by
  rcases S.par n (List.of_mem_zip hy).1 with q | q
  ·
   exact .inl q
  ·
   exact .inr ⟨q,PySem.W.cellsFrom_some _ _ _ (.inl q)⟩
 refine codeAny_call_function hr.depth (KX _ _ lk) rfl S.co S.gen rfl (PySem.W.codeRec_of KX hcd) (hb _ _ _ _ ?_)
 refine wpAny_newFunctionEnv_cells S.kind hkind fun env he s1 x=>?_
 subst he
 refine ⟨lim.keeps x.toInCall.keep,codeAny_func ?_⟩
 obtain ⟨t,ht,hq⟩:=hbody A outer s H vs Q E (hr.deeper _) hsp
 have I:Inv (jJ CX P w K mg base N qual scope f cdv A outer s H E) [] (start N vs) H s1:=inv_start S hr.hd e0 hl r x
 refine wpAny_mono (ht [] s1 (start N vs) H _ I hq) (fun fl s' hs=>?_) fun e s' hs=>hs
 have fin:∀ {σ':St} {H':Hp} {v:V} {u:Value},Inv (jJ CX P w K mg base N qual scope f cdv A outer s H E) [] σ' H' s'→RelV v u→Q v H'→CE outer P w H s Q u s':=
  fun {σ' H' v u} J rv q=>⟨v,H',J.os,J.bare,J.base,J.hok,rv,q⟩
 cases fl with
 | ret u=>
  obtain ⟨v,σ',H',J,rv,q⟩:=hs
  exact fin J rv q
 | next=>
  obtain ⟨σ',H',J,q⟩:=hs
  exact fin (v:=V.non) (u:=Value.none) J rfl q
 | brk=>
  obtain ⟨_,_,_,q⟩:=hs
  exact False.elim q
 | cont=>
  obtain ⟨_,_,_,q⟩:=hs
  exact False.elim q
end L2
namespace L2
open PySem PySem.Spec PyProof.Rows
section
variable {X:Cx} {x:Str} {p pos:Pos} {e:Expr} {es:List Expr} {t:TA} {id T:String} {r:List V→Hp→VK→Prop}
def tCB (r:List V→Hp→VK→Prop) (t:TA):TE:=fun σ H Q=>t σ H fun vs H1=>r vs H1 Q
theorem ij (hc:ca X (.builtin id) r) (hg:Gl X x) (hm:X.mg x=none) (hv:bootBuiltins x=some (.builtin id)) (ha:PA X (e::es) t) (hn:x≠"__name__":=by decide) (hdb:(x==("__debug__" : Str))=false:=by decide)
  (he:starEach (e::es) X.env=(false,eval e X.env)::starEach es X.env:=by rfl) (hpl:(backTo pos (starEach es X.env)).any (·.1)=false:=by rfl):PE X (.Call (.Name x p) (e::es) [] pos) (tCB r t):=by
 intro pins s σ H Q I h
 refine wpAny_Call_Name_kw (gp I hg hm hv ?_ hn hdb)
 exact PyProof.Rows.callWith_builtin1 (thn (ha pos pins s σ H _ I h) fun us s1 ⟨vs,H1,I1,r1,q1⟩=>hc pins s1 σ H1 vs us Q I1 r1 q1) he hpl
theorem iW (hc:ca X (.type T) r) (hg:Gl X x) (hm:X.mg x=none) (hv:bootBuiltins x=some (.type T)) (ha:PA X (e::es) t) (hn:x≠"__name__":=by decide) (hdb:(x==("__debug__" : Str))=false:=by decide)
  (he:starEach (e::es) X.env=(false,eval e X.env)::starEach es X.env:=by rfl) (hpl:(backTo pos (starEach es X.env)).any (·.1)=false:=by rfl):PE X (.Call (.Name x p) (e::es) [] pos) (tCB r t):=by
 intro pins s σ H Q I h
 refine wpAny_Call_Name_kw (gp I hg hm hv ?_ hn hdb)
 exact PyProof.Rows.callWith_type1 (thn (ha pos pins s σ H _ I h) fun us s1 ⟨vs,H1,I1,r1,q1⟩=>hc pins s1 σ H1 vs us Q I1 r1 q1) he hpl
end
end L2
namespace HT
open PySem PyProof.Rows
section
open PySem.SeqAt
open PySem.AutoSeq1 (wpAny_loadPart')
open PySem.MeetsSeq PySem.MeetsSeq2 PySem.MeetsSeq3
end
section
variable {prog:Program} {w:World} {A:Around} {E:Value→Shared→Prop} {s:Shared}
def sIx (n d:Nat):Option Int→Nat
 | none=>d
 | some v=>if v<0 then (v+(n:Int)).toNat else min v.toNat n
theorem sIx_none (n d:Nat):sIx n d none=d:=rfl
theorem sIx_nat (n d k:Nat):sIx n d (some (k:Int))=min k n:=by
 show (if (k:Int)<0 then ((k:Int)+(n:Int)).toNat else min (k:Int).toNat n)=min k n
 rw [if_neg (by omega),Int.toNat_natCast]
theorem sIx_le (n d:Nat) (hd:d≤n) (o:Option Int):sIx n d o≤n:=by
 cases o with
 | none=>exact hd
 | some v=>
  show (if v<0 then (v+(n:Int)).toNat else min v.toNat n)≤n
  by_cases hv:v<0
  ·
   rw [if_pos hv];omega
  ·
   rw [if_neg hv];exact Nat.min_le_right _ _
theorem clip_eq (v:Int) (n d:Nat):(if v<0 then max (v+(n:Int)) 0 else min v (n:Int))=((sIx n d (some v):Nat):Int):=by
 show (if v<0 then max (v+(n:Int)) 0 else min v (n:Int))=(((if v<0 then (v+(n:Int)).toNat else min v.toNat n):Nat):Int)
 by_cases hv:v<0
 ·
  simp only [if_pos hv];omega
 ·
  simp only [if_neg hv];omega
theorem nS (lo hi:Option Int) (n:Nat):Builtin.Slice.sliceAdjust lo hi 1 (n:Int)=(((sIx n 0 lo:Nat):Int),((sIx n n hi:Nat):Int)):=by
 have h1:¬((1:Int)<0):=by omega
 unfold Builtin.Slice.sliceAdjust
 simp only [h1,if_false]
 refine Prod.ext ?_ ?_
 ·
  cases lo with
  | none=>rfl
  | some v=>exact clip_eq v n 0
 ·
  cases hi with
  | none=>rfl
  | some v=>exact clip_eq v n n
theorem nT (i j:Nat):Builtin.Slice.slicePlaces (i:Int) (j:Int) 1=j-i:=by
 unfold Builtin.Slice.slicePlaces
 have h1:(1:Int)>0:=by omega
 simp only [h1,if_true,Int.ediv_one]
 split <;> omega
theorem j7 {v:Value} {o:Option Int} {Q:Option Int→Shared→Prop} (p:IsPart v o) (h:Q o s):wpAny (model prog w) A (Builtin.Slice.slicePartIndex v) Q E s:=by
 cases p with
 | none=>exact slicePart_none h
 | int i t=>exact slicePart_int h
theorem iX {sl:Addr} {vl vu:Value} {lo hi:Option Int} {n:Nat} {Q:Int×Int×Nat→Shared→Prop} (hs:s.heap.IsSliceOf sl vl vu .none) (pl:IsPart vl lo) (pu:IsPart vu hi)
  (h:Q (((sIx n 0 lo:Nat):Int),1,sIx n n hi-sIx n 0 lo) s):wpAny (model prog w) A (Builtin.Slice.sliceApplied (.ref sl) (pure (n:Int))) Q E s:=by
 obtain ⟨os,hos,hcs,hds⟩:=id hs
 unfold Builtin.Slice.sliceApplied Builtin.Slice.sliceFields
 refine wpAny_bind (wpAny_bind (wpAny_field hos hds (x:=vl) rfl (wpAny_bind (wpAny_field hos hds (x:=vu) rfl (wpAny_bind (wpAny_field hos hds (x:=.none) rfl (wpAny_pure ?_)))))))
 refine wpAny_bind (slicePart_none ?_)
 show wpAny _ _ (if ((1:Int)==0)=true then _ else _) _ _ s
 rw [if_neg (by decide)]
 refine wpAny_bind (j7 pl (wpAny_bind (j7 pu (wpAny_bind (wpAny_pure ?_)))))
 show wpAny _ _ (match Builtin.Slice.sliceAdjust lo hi 1 (n:Int) with | (lo,hi)=>pure (lo,(1:Int),Builtin.Slice.slicePlaces lo hi 1)) _ _ s
 rw [nS lo hi n]
 show wpAny _ _ (pure (((sIx n 0 lo:Nat):Int),(1:Int),Builtin.Slice.slicePlaces ((sIx n 0 lo:Nat):Int) ((sIx n n hi:Nat):Int) 1)) _ _ s
 rw [nT]
 exact wpAny_pure h
theorem pick_gen (xs:Array Value) (i k:Nat):((List.range k).filterMap fun (m:Nat)=>xs[((i:Int)+(m:Int)*1).toNat]?).toArray=((xs.toList.drop i).take k).toArray:=by
 have e:(fun (m:Nat)=>xs[((i:Int)+(m:Int)*1).toNat]?)=fun m=>xs[i+m]?:=by
  funext m
  have:((i:Int)+(m:Int)*1).toNat=i+m:=by omega
  rw [this]
 rw [e]
 have:=pick_run xs i k
 rw [List.filterMap_map] at this
 have e2:((fun x=>xs[x]?)∘fun x=>i+x)=fun m=>xs[i+m]?:=rfl
 rw [e2] at this
 rw [this]
theorem getItem_tuple_cut {t sl:Addr} {items:Array Value} {vl vu:Value} {lo hi:Option Int} {Q:Value→Shared→Prop} (ht:IsTup s.heap t items) (hs:s.heap.IsSliceOf sl vl vu .none) (pl:IsPart vl lo) (pu:IsPart vu hi)
  (hw:¬(sIx items.size 0 lo=0∧sIx items.size items.size hi=items.size))
  (h:Q (.ref s.heap.objs.size) { s with heap:=s.heap.push { cls:=.type "tuple",data:=.seq ((items.toList.drop (sIx items.size 0 lo)).take (sIx items.size items.size hi-sIx items.size 0 lo)).toArray } })
  (hsz:items.size≤sizeLine):wpAny (model prog w) A (getItem (.ref t) (.ref sl)) Q E s:=by
 have htake:sizeOk (.seq ((items.toList.drop (sIx items.size 0 lo)).take (sIx items.size items.size hi-sIx items.size 0 lo)).toArray):=by
  show ((items.toList.drop (sIx items.size 0 lo)).take (sIx items.size items.size hi-sIx items.size 0 lo)).toArray.size≤sizeLine
  rw [List.size_toArray,List.length_take,List.length_drop,Array.length_toList]
  omega
 have hj:sIx items.size items.size hi≤items.size:=sIx_le _ _ (Nat.le_refl _) hi
 obtain ⟨os,hos,hcs,hds⟩:=id hs
 have hTs:s.TypeIs (.ref sl) "slice":=⟨os,hos,hcs⟩
 unfold getItem
 try with_reducible refine wpAny_holding ?_
 first | refine wpAny_bind (wpAny_pure ?_) | skip
 refine wpAny_bind (wpAny_sequenceKey ht.typeIs (by decide) ?_)
 refine wpAny_bind (wpAny_callSpecial?_slot (name:=Str.ofString "__getitem__") ht.typeIs PyProof.Rows.slot_tuple_getitem
  (wpAny_call_entry PyProof.Rows.slot_tuple_getitem ht.typeIs entry_tuple_getitem ?_ (args_tuple_getitem _ _)))
 show wpAny _ _ (Builtin.Tuple.tupleItemsOf (.ref t) >>= _) _ _ s
 refine wpAny_bind (tupleItemsOf_ ht ?_)
 refine wpAny_bind (wpAny_typeOf hTs ?_)
 rw [if_pos (by decide)]
 refine wpAny_bind (iX hs pl pu ?_)
 have hno:¬((((sIx items.size 0 lo:Nat):Int)==0&&(1:Int)==1&&(sIx items.size items.size hi-sIx items.size 0 lo)==items.size)=true):=by
  intro q
  rw [Bool.and_eq_true,Bool.and_eq_true] at q
  have q1:((sIx items.size 0 lo:Nat):Int)=0:=eq_of_beq q.1.1
  have q2:sIx items.size items.size hi-sIx items.size 0 lo=items.size:=eq_of_beq q.2
  exact hw ⟨by omega,by omega⟩
 show wpAny _ _ (if (((sIx items.size 0 lo:Nat):Int)==0&&(1:Int)==1&&(sIx items.size items.size hi-sIx items.size 0 lo)==items.size)=true then _ else _) _ _ s
 rw [if_neg hno,pick_gen]
 first
  | exact wpAny_bind (m:=Builtin.Tuple.tupleExact _) (wpAny_newObj_type (wpAny_pure ⟨_,rfl,wpAny_pure h⟩) htake)
  | exact wpAny_bind (m:=Builtin.Tuple.tupleExact _) (wpAny_newObj_type (wpAny_bind (wpAny_pure (wpAny_pure ⟨_,rfl,wpAny_pure h⟩))) htake)
  | exact wpAny_bind (wpAny_bind (m:=Builtin.Tuple.tupleExact _) (wpAny_newObj_type (wpAny_pure (wpAny_pure ⟨_,rfl,wpAny_pure h⟩)) htake))
  | exact wpAny_bind (wpAny_bind (m:=Builtin.Tuple.tupleExact _) (wpAny_newObj_type (wpAny_pure ⟨_,rfl,wpAny_pure h⟩) htake))
end
end HT
namespace L2
open PySem PySem.Spec PyProof.Rows
abbrev TO:=St→Hp→(Option Int→Hp→Prop)→Prop
def PO (X:Cx) (e:Option Expr) (t:TO):Prop:=
 ∀ (pins:List (Addr×Obj)) (s:Shared) (σ:St) (H:Hp) (Q:Option Int→Hp→Prop),Inv X pins σ H s→t σ H Q→
  wpAny (model X.prog X.w) X.A (evalPart e X.env) (fun u s'=>∃ o H',Inv X pins σ H' s'∧IsPart u o∧Q o H') X.xe s
def tNoPart:TO:=fun _ H Q=>Q none H
def tPart (t:TE):TO:=fun σ H Q=>t σ H fun x H1=>∃ i,x=.int i∧Q (some i) H1
section
variable {X:Cx} {e:Expr} {te:TE} {lo hi:Option Expr} {tl th:TO} {pos p2:Pos}
theorem po_none:PO X none tNoPart:=by
 intro pins s σ H Q I h
 rw [evalPart_none]
 exact wpAny_pure ⟨none,H,I,.none,h⟩
theorem po_some (h:PE X e te):PO X (some e) (tPart te):=by
 intro pins s σ H Q I hw
 rw [evalPart_some]
 refine thn (h pins s σ H _ I hw) fun u s1 ⟨x,H1,I1,r1,q1⟩=>?_
 obtain ⟨i,rfl,q⟩:=q1
 obtain ⟨t,rfl⟩:=r1
 exact ⟨some i,H1,I1,.int i t,q⟩
def SlR (X:Cx) (r:V→Option Int→Option Int→Hp→VK→Prop):Prop:=
 ∀ (pins:List (Addr×Obj)) (s:Shared) (σ:St) (H:Hp) (x:V) (v vl vu:Value) (lo hi:Option Int) (sl:Addr) (Q:VK),Inv X pins σ H s→RelV x v→s.heap.IsSliceOf sl vl vu .none→IsPart vl lo→IsPart vu hi→r x lo hi H Q→
  ∃ T id,typeLookup (.type T) "__getitem__" = pure (some (.builtin id))∧s.TypeIs v T∧wpAny (model X.prog X.w) X.A (getItem v (.ref sl)) (EP X pins σ Q) X.xe s
def tSl (r:V→Option Int→Option Int→Hp→VK→Prop) (te:TE) (tl th:TO):TE:=fun σ H Q=>te σ H fun x H1=>tl σ H1 fun l H2=>th σ H2 fun u H3=>r x l u H3 Q
theorem mw {r:V→Option Int→Option Int→Hp→VK→Prop} (hr:SlR X r) (he:PE X e te) (hl:PO X lo tl) (hu:PO X hi th):PE X (.Subscript e (.Slice lo hi none p2) pos) (tSl r te tl th):=by
 intro pins s σ H Q I h
 refine Subscript_ (thn (he pins s σ H _ I h) fun v s1 ⟨x,H1,I1,r1,q1⟩=>?_)
 refine wpAny_Slice (thn (hl pins s1 σ H1 _ I1 q1) fun vl s2 ⟨l,H2,I2,pl,q2⟩=>thn (hu pins s2 σ H2 _ I2 q2) fun vu s3 ⟨u,H3,I3,pu,q3⟩=>?_)
 rw [evalPart_none]
 refine wpAny_pure ?_
 have I4:Inv X pins σ H3 { s3 with heap:=s3.heap.push { cls:=.type "slice",data:=.fields #[vl,vu,.none] } }:=I3.kept (t':=s3.toks) fun b ob q=>Heap.get?_push_of_some _ q
 obtain ⟨T,id,hT,ht,hg⟩:=hr pins { s3 with heap:=s3.heap.push { cls:=.type "slice",data:=.fields #[vl,vu,.none] } } σ H3 x v vl vu l u s3.heap.objs.size Q I4 r1 (Heap.IsSliceOf.new ..) pl pu q3
 show wpAny (model X.prog X.w) X.A (subscriptTail e (.Slice lo hi none p2) v (.ref s3.heap.objs.size)) (EP X pins σ Q) X.xe { s3 with heap:=s3.heap.push { cls:=.type "slice",data:=.fields #[vl,vu,.none] } }
 exact tail_any (ops:=[.ref s3.heap.objs.size,v]) ht hT hg (by with_unfolding_all rfl)
def cutV (xs:List V) (lo hi:Option Int):List V:=(xs.drop (HT.sIx xs.length 0 lo)).take (HT.sIx xs.length xs.length hi-HT.sIx xs.length 0 lo)
theorem jv (xs:List V) (lo hi:Option Int):(cutV xs lo hi).length≤xs.length:=by
 unfold cutV
 rw [List.length_take,List.length_drop]
 omega
def rSlT (K:PySem.W.Frag):V→Option Int→Option Int→Hp→VK→Prop:=fun x lo hi H Q=>∃ a xs,x=.ref a∧SqT K H a xs∧
 ¬(HT.sIx xs.length 0 lo=0∧HT.sIx xs.length xs.length hi=xs.length)∧∀ p,H p=none→Q (.ref p) (upd H p (.tup (cutV xs lo hi)))
theorem sl_tup:SlR X (rSlT X.K):=by
 intro pins s σ H x v vl vu lo hi sl Q I rx hs pl pu h
 obtain ⟨a,xs,rfl,hx,hw,q⟩:=h
 cases rx
 obtain ⟨its,r,ht,hz⟩:=I.tuple hx
 have hlen:its.toArray.size=xs.length:=by rw [List.size_toArray];exact r.length.symm
 refine ⟨"tuple",_,PyProof.Rows.slot_tuple_getitem.lookup,ht.typeIs,?_⟩
 refine HT.getItem_tuple_cut ht hs pl pu (by rw [hlen];exact hw) ?_ (by rw [hlen];exact hz)
 rw [hlen]
 refine ⟨.ref s.heap.objs.size,_,I.laid (t':=s.toks) (o:=.tup (cutV xs lo hi)) (fun b ob q=>Heap.get?_push_of_some _ q) (Nat.le_refl _) ?_,rfl,q _ (I.hok.fresh (Nat.le_refl _))⟩
 exact ⟨Nat.le_trans (jv xs lo hi) hz,_,(r.drop (HT.sIx xs.length 0 lo)).take (HT.sIx xs.length xs.length hi-HT.sIx xs.length 0 lo),IsTup.new _ _⟩
end
end L2
namespace L2
open PySem PySem.Spec PyProof.Rows
def ixN (n:Nat) (i:Int):Option Nat:=if 0≤i then (if i<n then some i.toNat else none) else if -(n:Int)≤i then some (i+n).toNat else none
def atI {α:Type} (xs:List α) (i:Int):Option α:=(ixN xs.length i).bind fun j=>xs[j]?
theorem ixN_seq {n:Nat} {i:Int} {j:Nat} (h:ixN n i=some j):seqIndex? i n=some j∧j<n∧-(n:Int)≤i∧i<n:=by
 unfold ixN at h
 by_cases h0:0≤i
 ·
  rw [if_pos h0] at h
  by_cases h1:i<n
  ·
   rw [if_pos h1] at h
   have e:i.toNat=j:=Option.some.inj h
   exact ⟨by rw [seqIndex_of h0 h1,e],by omega,by omega,h1⟩
  ·
   rw [if_neg h1] at h;cases h
 ·
  rw [if_neg h0] at h
  by_cases h1:-(n:Int)≤i
  ·
   rw [if_pos h1] at h
   have e:(i+n).toNat=j:=Option.some.inj h
   exact ⟨by rw [seqIndex_neg (by omega) h1,e],by omega,h1,by omega⟩
  ·
   rw [if_neg h1] at h;cases h
theorem atI_get {α:Type} {xs:List α} {i:Int} {v:α} (h:atI xs i=some v):∃ j,seqIndex? i xs.length=some j∧xs[j]?=some v∧j<xs.length∧-(xs.length:Int)≤i∧i<xs.length:=by
 unfold atI at h
 cases e:ixN xs.length i with
 | none=>rw [e] at h;cases h
 | some j=>
  rw [e] at h
  obtain ⟨h1,h2,h3,h4⟩:=ixN_seq e
  exact ⟨j,h1,h,h2,h3,h4⟩
def jU (b:Expr):Prop:=∀ o i,subscripted b false o i=operate [o,i] (getItem o i)
def IxR (X:Cx) (r:R2):Prop:=
 ∀ (value slice:Expr) (pins:List (Addr×Obj)) (s:Shared) (σ:St) (H:Hp) (x y:V) (v u:Value) (Q:VK),Inv X pins σ H s→RelV x v→RelV y u→r x y H Q→
  subscripted slice false v u=operate [v,u] (getItem v u)→wpAny (model X.prog X.w) X.A (subscriptTail value slice v u) (EP X pins σ Q) X.xe s
def MtR (X:Cx) (id:String) (r:V→List V→Hp→VK→Prop):Prop:=
 ∀ (pins:List (Addr×Obj)) (s:Shared) (σ:St) (H:Hp) (x:V) (xs:List V) (v:Value) (us:List Value) (Q:VK),Inv X pins σ H s→RelV x v→aK xs us→r x xs H Q→
  wpAny (model X.prog X.w) X.A (call (.builtin id) (v::us)) (EP X pins σ Q) X.xe s
section
variable {X:Cx} {a b:Expr} {ta tb:TE} {pos:Pos}
theorem pe_ix {r:R2} (hr:IxR X r) (ha:PE X a ta) (hb:PE X b tb) (hs:jU b):PE X (.Subscript a b pos) (tOp r ta tb):=by
 intro pins s σ H Q I h
 exact Subscript_ (binT ha hb I h fun v u s2 x y H2 I2 rx ry q=>hr a b pins s2 σ H2 x y v u Q I2 rx ry q (hs _ _))
def rIxL (K:PySem.W.Frag):R2:=fun x y H Q=>∃ p xs i v,x=.ref p∧y=.int i∧SqL K H p xs∧atI xs i=some v∧Q v H
def rIxT (K:PySem.W.Frag):R2:=fun x y H Q=>∃ p xs i v,x=.ref p∧y=.int i∧SqT K H p xs∧atI xs i=some v∧Q v H
theorem ix_list:IxR X (rIxL X.K):=by
 intro value slice pins s σ H x y v u Q I rx ry h hs
 obtain ⟨p,xs,i,z,rfl,rfl,hq,he,q⟩:=h
 cases rx
 obtain ⟨t,rfl⟩:=ry
 obtain ⟨its,r,pl,hz⟩:=I.list hq
 obtain ⟨j,h1,h2,h3,h4,h5⟩:=atI_get he
 obtain ⟨w,ew,rw'⟩:=r.get h2
 have hl:=r.length
 have hn:=lw
 have fin:EP X pins σ Q w s:=⟨z,H,I,rw',q⟩
 by_cases h0:0≤i
 ·
  have hj:i.toNat=j:=by
   rw [seqIndex_of h0 h5] at h1
   exact Option.some.inj h1
  exact item_listR pl.isList h0 (by omega) (by rw [hj];simpa using ew) fin hs
 ·
  have hj:(i+(its.toArray.size:Int)).toNat=j:=by
   rw [seqIndex_neg (by omega) h4] at h1
   rw [List.size_toArray,←hl]
   exact Option.some.inj h1
  exact subscriptTail_builtinR (x:=w) pl.isList.typeIs slot_list_getitem.lookup
   (wpAny_getItem_list_neg (Q:=fun r s'=>r=w∧EP X pins σ Q r s') pl.isList (by omega) (by rw [List.size_toArray] <;> omega) (by omega) (by rw [hj];simpa using ew) ⟨rfl,fin⟩) hs
theorem ix_tup:IxR X (rIxT X.K):=by
 intro value slice pins s σ H x y v u Q I rx ry h hs
 obtain ⟨p,xs,i,z,rfl,rfl,hq,he,q⟩:=h
 cases rx
 obtain ⟨t,rfl⟩:=ry
 obtain ⟨its,r,pl,hz⟩:=I.tuple hq
 obtain ⟨j,h1,h2,h3,h4,h5⟩:=atI_get he
 obtain ⟨w,ew,rw'⟩:=r.get h2
 have hl:=r.length
 have hn:=lw
 have fin:EP X pins σ Q w s:=⟨z,H,I,rw',q⟩
 exact subscriptTail_builtinR (x:=w) pl.typeIs slot_tuple_getitem.lookup
  (getItem_tuple (j:=j) (Q:=fun r s'=>r=w∧EP X pins σ Q r s') pl (by omega) (by omega) (by rw [List.size_toArray,←hl];exact h1) (by simpa using ew) ⟨rfl,fin⟩) hs
theorem ly (lo hi:Option Int) (n:Nat):(sliceBounds lo hi none n).1=((HT.sIx n 0 lo:Nat):Int)∧(sliceBounds lo hi none n).2.1=((HT.sIx n n hi:Nat):Int)∧(sliceBounds lo hi none n).2.2=1:=by
 refine ⟨?_,?_,rfl⟩
 ·
  cases lo with
  | none=>simp [sliceBounds,HT.sIx]
  | some i=>
   simp only [sliceBounds,HT.sIx,Option.getD_none,show (1:Int)>0 by decide,if_true]
   by_cases h:i<0
   ·
    simp only [h,if_true] <;> omega
   ·
    simp only [h,if_false] <;> omega
 ·
  cases hi with
  | none=>simp [sliceBounds,HT.sIx]
  | some i=>
   simp only [sliceBounds,HT.sIx,Option.getD_none,show (1:Int)>0 by decide,if_true]
   by_cases h:i<0
   ·
    simp only [h,if_true] <;> omega
   ·
    simp only [h,if_false] <;> omega
theorem kL (its:List Value) (lo hi:Option Int):slicePick its.toArray lo hi none=((its.drop (HT.sIx its.length 0 lo)).take (HT.sIx its.length its.length hi-HT.sIx its.length 0 lo)).toArray:=by
 obtain ⟨h1,h2,h3⟩:=ly lo hi its.toArray.size
 unfold slicePick
 rw [h1,h2,h3]
 simp only [sliceRange_one,pick_run,List.size_toArray] <;> rfl
def rSlL (K:PySem.W.Frag):V→Option Int→Option Int→Hp→VK→Prop:=fun x lo hi H Q=>∃ a xs,x=.ref a∧SqL K H a xs∧∀ p,H p=none→Q (.ref p) (upd H p (.lst (cutV xs lo hi)))
theorem sl_list:SlR X (rSlL X.K):=by
 intro pins s σ H x v vl vu lo hi sl Q I rx hs pl pu h
 obtain ⟨a,xs,rfl,hx,q⟩:=h
 cases rx
 obtain ⟨its,r,ht,hz⟩:=I.list hx
 have hlen:=r.length
 refine ⟨"list",_,slot_list_getitem.lookup,ht.isList.typeIs,?_⟩
 refine wpAny_getItem_list_slice ht.isList hs pl pu .none (by simp) ?_ (by rw [List.size_toArray] <;> omega)
 rw [kL,←hlen]
 refine ⟨.ref s.heap.objs.size,_,I.laid (t':=s.toks) (o:=.lst (cutV xs lo hi)) (fun b ob q=>Heap.get?_push_of_some _ q) (Nat.le_refl _) ?_,rfl,q _ (I.hok.fresh (Nat.le_refl _))⟩
 exact ⟨Nat.le_trans (jv xs lo hi) hz,_,0,(r.drop (HT.sIx xs.length 0 lo)).take (HT.sIx xs.length xs.length hi-HT.sIx xs.length 0 lo),Heap.get?_push_size _ rfl⟩
theorem fF:ca X (.builtin "len") (fun xs H Q=>∃ p ys,xs=[.ref p]∧(SqL X.K H p ys∨SqT X.K H p ys)∧Q (.int ys.length) H):=by
 intro pins s σ H xs us Q I r h
 obtain ⟨p,ys,rfl,hq,q⟩:=h
 obtain ⟨u,rfl,rx⟩:=vals1 r
 cases rx
 have hn:=lw
 rcases hq with hq | hq
 ·
  obtain ⟨its,r',pl,hz⟩:=I.list hq
  have hlen:=r'.length
  exact Calls.call_len_list pl.isList (by simp only [List.size_toArray] <;> omega) ⟨.int ys.length,H,I.tok _,⟨s.toks+1,by rw [List.size_toArray,hlen]⟩,q⟩
 ·
  obtain ⟨its,r',pl,hz⟩:=I.tuple hq
  have hlen:=r'.length
  exact len_tuple pl (by simp only [List.size_toArray] <;> omega) ⟨.int ys.length,H,I.tok _,⟨s.toks+1,by rw [List.size_toArray,hlen]⟩,q⟩
theorem lz:ca X (.builtin "len") (fun xs H Q=>∃ z,xs=[.str z]∧z.length≤sizeLine∧Q (.int z.length) H):=by
 intro pins s σ H xs us Q I r h
 obtain ⟨z,rfl,hz,q⟩:=h
 obtain ⟨u,rfl,t,rfl⟩:=vals1 r
 have hn:=lw
 exact len_str (by omega) ⟨.int z.length,H,I.tok _,⟨_,rfl⟩,q⟩
theorem ik:ca X (.type "list") (fun xs H Q=>∃ p ys,xs=[.ref p]∧(SqL X.K H p ys∨SqT X.K H p ys)∧∀ l,H l=none→Q (.ref l) (upd H l (.lst ys))):=by
 intro pins s σ H xs us Q I r h
 obtain ⟨p,ys,rfl,hq,q⟩:=h
 obtain ⟨u,rfl,rx⟩:=vals1 r
 cases rx
 have fin:∀ (its:List Value),aK ys its→ys.length≤sizeLine→∀ (h':Heap) (c':Nat),(∀ b o',s.heap.get? b=some o'→h'.get? b=some o')→
   h'.get? s.heap.objs.size=some { cls:=.type "list",dict:=none,data:=.seq its.toArray c',slots:=#[] }→EP X pins σ Q (.ref s.heap.objs.size) { s with heap:=h' }:=fun its r' hz h' c' kp e=>
  ⟨.ref s.heap.objs.size,_,I.laid (t':=s.toks) kp (Nat.le_refl _) (show cA X.prog X.w _ h' _ (.lst ys) from ⟨hz,its,c',r',e⟩),rfl,q _ (I.hok.fresh (Nat.le_refl _))⟩
 rcases hq with hq | hq
 ·
  obtain ⟨its,r',pl,hz⟩:=I.list hq
  have hlen:=r'.length
  obtain ⟨o,ho,hc,n,hd⟩:=pl.isList
  exact call_list_seq p (.inl rfl) ho hc hd (fun h' c' kp e=>fin its r' hz h' c' kp e) (by simp only [List.size_toArray] <;> omega)
 ·
  obtain ⟨its,r',pl,hz⟩:=I.tuple hq
  have hlen:=r'.length
  obtain ⟨o,ho,hc,n,hd⟩:=pl
  exact call_list_seq p (.inr rfl) ho hc hd (fun h' c' kp e=>fin its r' hz h' c' kp e) (by simp only [List.size_toArray] <;> omega)
def tyV (K:PySem.W.Frag) (T:String) (x:V) (H:Hp):Prop:=match x with
 | .str _=>T = "str"
 | .int _=>T = "int"
 | .ref p=>(T = "list"∧∃ xs,SqL K H p xs)∨(T = "tuple"∧∃ o,K.lookup p=some o∧o.cls=.type "tuple"∧o.dict=none)∨
  (T = "dict"∧((∃ kvs,H p=some (.dK kvs))∨∃ kvs,H p=some (.dT kvs)))∨(T = "set"∧∃ S n,H p=some (.set S n))
 | _=>False
theorem tyV_is {pins:List (Addr×Obj)} {σ:St} {H:Hp} {s:Shared} {T:String} {x:V} {v:Value} (I:Inv X pins σ H s) (r:RelV x v) (ty:tyV X.K T x H) :
  s.TypeIs v T∧∀ a,v=.ref a→∃ ob,s.heap.get? a=some ob∧ob.dict=none:=by
 cases x with
 | str z=>
  obtain ⟨t,rfl⟩:=r
  cases (show T = "str" from ty)
  exact ⟨typeIs_str s z t,fun _ e=>nomatch e⟩
 | int i=>
  obtain ⟨t,rfl⟩:=r
  cases (show T = "int" from ty)
  exact ⟨typeIs_int s i t,fun _ e=>nomatch e⟩
 | ref p=>
  cases r
  rcases ty with ⟨rfl,xs,hq⟩ | ⟨rfl,o,hk,hc,hd⟩ | ⟨rfl,hk⟩ | ⟨rfl,S,n,hk⟩
  ·
   obtain ⟨its,_,pl,_⟩:=I.list hq
   refine ⟨pl.isList.typeIs,fun a e=>?_⟩
   cases e
   obtain ⟨o,n,e,c,hd,_⟩:=pl
   exact ⟨o,e,hd⟩
  ·
   refine ⟨⟨o,I.kIn p o hk,hc⟩,fun a e=>?_⟩
   cases e
   exact ⟨o,I.kIn _ o hk,hd⟩
  ·
   have z:∃ o,s.heap.get? p=some o∧o.ExactDict:=by
    rcases hk with ⟨kvs,hk⟩ | ⟨kvs,hk⟩
    ·
     obtain ⟨_,_,_,_,o,_,_,e,ex,_⟩:=I.hok p _ hk
     exact ⟨o,e,ex⟩
    ·
     obtain ⟨_,_,_,_,o,_,_,e,ex,_⟩:=I.hok p _ hk
     exact ⟨o,e,ex⟩
   obtain ⟨o,e,ex⟩:=z
   refine ⟨⟨o,e,ex.1⟩,fun a e2=>?_⟩
   cases e2
   exact ⟨o,e,ex.2.1⟩
  ·
   obtain ⟨o,_,_,_,e,ex,_⟩:=I.hok p _ hk
   refine ⟨⟨o,e,ex.1⟩,fun a e2=>?_⟩
   cases e2
   exact ⟨o,e,ex.2.1⟩
 | _=>exact False.elim ty
def tBM (K:PySem.W.Frag) (T:String) (r:V→List V→Hp→VK→Prop) (to:TE) (t:TA):TE:=fun σ H Q=>to σ H fun x H1=>tyV K T x H1∧t σ H1 fun xs H2=>r x xs H2 Q
variable {o e:Expr} {es:List Expr} {to:TE} {t:TA} {name:Str} {apos cpos:Pos} {T id:String} {r:V→List V→Hp→VK→Prop}
theorem pe_bm (pa:PlainAttrs T) (slot:Slot T name id) (hty:typeOf (.builtin id)=pure (.type "method_descriptor")) (hm:MtR X id r) (ho:PE X o to) (ha:PA X (e::es) t)
  (hbase:attributeBase o name X.env (eval o X.env)=eval o X.env:=by rfl)
  (hfew:((backTo cpos (starEach (e::es) X.env)).all (fun x=>!x.1)&&(backToKw cpos (keywordEach [] X.env)).all (fun x=>x.1.isSome)
   &&decide ((e::es).length+([]:List Keyword).length+(if ([]:List Keyword).isEmpty then 0 else 1)<30))=true:=by rfl)
  (hline:(apos.endLine==cpos.line)=true:=by rfl) (hs:starEach (e::es) X.env=(false,eval e X.env)::starEach es X.env:=by rfl) (hplain:(backTo cpos (starEach es X.env)).any (·.1)=false:=by rfl) :
  PE X (.Call (.Attribute o name apos) (e::es) [] cpos) (tBM X.K T r to t):=by
 intro pins s σ H Q I h
 refine wpAny_Call_method_late hbase hfew hline rfl (thn (ho pins s σ H _ I h) fun v s1 ⟨x,H1,I1,r1,ty,q1⟩=>?_)
 obtain ⟨h1,h2⟩:=tyV_is I1 r1 ty
 refine ⟨T,id,pa,slot,hty,h1,h2,?_⟩
 have hA:=ha cpos pins s1 σ H1 _ I1 q1
 rw [hs] at hA ⊢
 refine Calls.callWith_builtin (by show (false||(backTo cpos (starEach es X.env)).any (·.1))=false;rw [hplain] <;> rfl) (Calls.evalArgs_plain ?_)
 exact thn hA fun us s2 ⟨vs,H2,I2,r2,q2⟩=>hm pins s2 σ H2 x vs v us Q I2 r1 r2 q2
end
end L2
namespace L2
open PySem PySem.Spec PyProof.Rows
def MtM (X:Cx) (id:String) (r:V→List V→Hp→VK→Prop):Prop:=
 ∀ (pins:List (Addr×Obj)) (s:Shared) (σ:St) (H:Hp) (x:V) (xs:List V) (v:Value) (us:List Value) (Q:VK),Inv X pins σ H s→RelV x v→aK xs us→r x xs H Q→
  wpAny (model X.prog X.w) X.A (call (.builtin id) (v::us)) (EP X pins σ Q) X.xe s
theorem aK.one:∀ {x:V} {us:List Value},aK [x] us→∃ u,us=[u]∧RelV x u
 | _,_,.cons r .nil=>⟨_,rfl,r⟩
theorem aK.two:∀ {x y:V} {us:List Value},aK [x,y] us→∃ u v,us=[u,v]∧RelV x u∧RelV y v
 | _,_,_,.cons r (.cons q .nil)=>⟨_,_,rfl,r,q⟩
theorem aK.reverse {xs:List V} {us:List Value} (h:aK xs us):aK xs.reverse us.reverse:=by
 induction h with
 | nil=>exact .nil
 | cons r t ih=>rw [List.reverse_cons,List.reverse_cons];exact aK.append ih (.cons r .nil)
theorem aK.rep {xs:List V} {us:List Value} (h:aK xs us):∀ k:Nat,aK (List.replicate k xs).flatten (List.replicate k us).flatten
 | 0=>.nil
 | k+1=>by
  rw [List.replicate_succ,List.replicate_succ,List.flatten_cons,List.flatten_cons]
  exact aK.append h (aK.rep h k)
theorem foldl_rep (its:List Value):∀ (k:Nat) (acc:List Value),
  List.foldl (fun x1 x2=>x1++x2) acc.toArray (List.replicate k its.toArray)=(acc++(List.replicate k its).flatten).toArray
 | 0,acc=>by simp
 | k+1,acc=>by
  have e:acc.toArray++its.toArray=(acc++its).toArray:=by simp
  have e2:(acc++its)++(List.replicate k its).flatten=acc++(List.replicate (k+1) its).flatten:=by
   rw [List.replicate_succ,List.flatten_cons,List.append_assoc]
  rw [←e2,←foldl_rep its k (acc++its),←e,List.replicate_succ,List.foldl_cons]
section
variable {X:Cx} {pins:List (Addr×Obj)} {σ:St} {H:Hp} {s:Shared} {l b:Addr} {xs ys zs:List V}
theorem Inv.lset {its its':List Value} {n:Nat} {f:Array Value→Array Value} {t':Nat} (I:Inv X pins σ H s) (hH:H l=some (.lst xs))
  (e:s.heap.get? l=some { cls:=.type "list",data:=.seq its.toArray n }) (hf:f its.toArray=its'.toArray) (hv:aK ys its') (hz:ys.length≤sizeLine) :
  Inv X pins σ (upd H l (.lst ys)) { s with heap:=s.heap.update l (Obj.mapSeq f),toks:=t' }:=by
 have q:=PySem.IsL.update e f
 rw [hf] at q
 refine I.write (x:=l) (e:=l) (by rw [hH];exact trivial) (.inl rfl) (fun b' u hb hu=>(Heap.get?_update_other s.heap (Obj.mapSeq f) (Ne.symm hb)).trans hu) ⟨_,q⟩ ?_
 exact ⟨hz,its',_,hv,q⟩
theorem Inv.lnew {its:List Value} {t':Nat} (I:Inv X pins σ H s) (hv:aK ys its) (hz:ys.length≤sizeLine) :
  Inv X pins σ (upd H s.heap.objs.size (.lst ys)) { s with heap:=s.heap.push { cls:=.type "list",data:=.seq its.toArray },toks:=t' }:=
 I.laid (fun _ _ q=>Heap.get?_push_of_some _ q) (Nat.le_refl _) ⟨hz,its,0,hv,Heap.get?_push_size _ rfl⟩
theorem Inv.fresh (I:Inv X pins σ H s):H s.heap.objs.size=none:=I.hok.fresh (Nat.le_refl _)
theorem Inv.lstM (I:Inv X pins σ H s) (hH:H l=some (.lst xs)):xs.length≤sizeLine∧∃ (its:List Value) (n:Nat),aK xs its∧xs.length=its.length∧s.heap.get? l=some { cls:=.type "list",data:=.seq its.toArray n }:=by
 obtain ⟨z,its,n,r,e⟩:=I.hok l _ hH
 exact ⟨z,its,n,r,r.length,e⟩
theorem mx {n:Nat} (h:n≤sizeLine):Builtin.List.listTooLong n=false:=by
 unfold Builtin.List.listTooLong
 exact decide_eq_false (by omega)
end
section
variable {X:Cx}
def rAppend:V→List V→Hp→VK→Prop:=fun x vs H Q=>∃ l xs y,x=.ref l∧vs=[y]∧H l=some (.lst xs)∧xs.length<sizeLine∧Q .non (upd H l (.lst (xs++[y])))
theorem iY:MtM X "list.append" rAppend:=by
 intro pins s σ H x vs v us Q I rx rv h
 obtain ⟨l,xs,y,rfl,rfl,hH,hz,q⟩:=h
 cases rx
 obtain ⟨u,rfl,ru⟩:=rv.one
 obtain ⟨z,its,n,r,hl,e⟩:=I.lstM hH
 refine call_meets F.slot_list_append ⟨_,e,rfl⟩ F.entry_list_append (F.args_list_append_2 _ _) (PySem.list_append l its.toArray n u (by rw [List.size_toArray];omega)) ⟨e,?_⟩
 refine ⟨.non,_,I.lset (its':=its++[u]) hH e (by simp) (r.append (.cons ru .nil)) ?_,rfl,q⟩
 rw [List.length_append,List.length_singleton]
 omega
def rExtend:V→List V→Hp→VK→Prop:=fun x vs H Q=>∃ l b xs zs,x=.ref l∧vs=[.ref b]∧H l=some (.lst xs)∧H b=some (.lst zs)∧xs.length+zs.length≤sizeLine∧Q .non (upd H l (.lst (xs++zs)))
theorem mt_extend:MtM X "list.extend" rExtend:=by
 intro pins s σ H x vs v us Q I rx rv h
 obtain ⟨l,b,xs,zs,rfl,rfl,hH,hB,hz,q⟩:=h
 cases rx
 obtain ⟨u,rfl,ru⟩:=rv.one
 cases ru
 obtain ⟨z,its,n,r,hl,e⟩:=I.lstM hH
 obtain ⟨z2,its2,n2,r2,hl2,e2⟩:=I.lstM hB
 have hsz:its.toArray.size+its2.toArray.size≤sizeLine:=by rw [List.size_toArray,List.size_toArray];omega
 have hlong:¬(!its.toArray.isEmpty&&Builtin.List.listTooLong (its.toArray.size+its2.toArray.size))=true:=by
  rw [mx hsz,Bool.and_false]
  exact Bool.false_ne_true
 refine call_meets F.slot_list_extend ⟨_,e,rfl⟩ F.entry_list_extend (F.args_list_extend_2 _ _)
  (AutoSeq1.list_extend_list_list_0 l its.toArray n b its2.toArray n2 hlong (by rw [List.size_toArray];omega) (by omega)) ⟨e,e2,?_⟩
 refine ⟨.non,_,I.lset (its':=its++its2) hH e (by simp) (r.append r2) ?_,rfl,q⟩
 rw [List.length_append]
 omega
def rCat:R2:=fun x y H Q=>∃ l b xs zs,x=.ref l∧y=.ref b∧H l=some (.lst xs)∧H b=some (.lst zs)∧xs.length+zs.length≤sizeLine∧∀ p,H p=none→Q (.ref p) (upd H p (.lst (xs++zs)))
theorem op_cat:OpR X (binaryOp .Add) rCat:=by
 intro pins s σ H x y v u Q I rx ry h
 obtain ⟨l,b,xs,zs,rfl,rfl,hH,hB,hz,q⟩:=h
 cases rx
 cases ry
 obtain ⟨z,its,n,r,hl,e⟩:=I.lstM hH
 obtain ⟨z2,its2,n2,r2,hl2,e2⟩:=I.lstM hB
 refine PySem.P.add_list e e2 ?_ (by rw [List.size_toArray,List.size_toArray];omega)
 have ea:its.toArray++its2.toArray=(its++its2).toArray:=by simp
 rw [ea]
 exact ⟨.ref _,_,I.lnew (t':=s.toks) (r.append r2) (by rw [List.length_append];omega),rfl,q _ I.fresh⟩
def rRep:R2:=fun x y H Q=>∃ l k xs,x=.ref l∧y=.int k∧H l=some (.lst xs)∧-(2 ^ 63)≤k∧k<2 ^ 63∧xs.length*k.toNat≤sizeLine∧
 ∀ p,H p=none→Q (.ref p) (upd H p (.lst (List.replicate k.toNat xs).flatten))
theorem len_rep {α:Type} (xs:List α) (k:Nat):(List.replicate k xs).flatten.length=k*xs.length:=by
 induction k with
 | zero=>simp
 | succ k ih=>rw [List.replicate_succ,List.flatten_cons,List.length_append,ih,Nat.succ_mul,Nat.add_comm]
theorem op_rep:OpR X (binaryOp .Mult) rRep:=by
 intro pins s σ H x y v u Q I rx ry h
 obtain ⟨l,k,xs,rfl,rfl,hH,h1,h2,hz,q⟩:=h
 cases rx
 obtain ⟨t,rfl⟩:=ry
 obtain ⟨z,its,n,r,hl,e⟩:=I.lstM hH
 have hlen:its.toArray.size*k.toNat≤sizeLine:=by rw [List.size_toArray,←hl];exact hz
 have hcap:¬its.toArray.size*k.toNat>(2 ^ 63-1) / 8:=by
  have:(sizeLine:Nat)≤(2 ^ 63-1) / 8:=by decide
  omega
 have hfit:¬(!Builtin.List.listFitsIndex k)=true:=by
  rw [fitsIndex_both h1 h2]
  exact Bool.false_ne_true
 have hlong:¬Builtin.List.listTooLong (its.toArray.size*k.toNat)=true:=by
  rw [mx hlen]
  exact Bool.false_ne_true
 have hnew:List.foldl (fun x1 x2=>x1++x2) #[] (List.replicate (if its.toArray.isEmpty=true then 0 else k.toNat) its.toArray)=(List.replicate k.toNat its).flatten.toArray:=by
  have f0:∀ m:Nat,List.foldl (fun x1 x2=>x1++x2) #[] (List.replicate m its.toArray)=(List.replicate m its).flatten.toArray:=fun m=>by
   have:=foldl_rep its m []
   rw [List.nil_append] at this
   exact this
  rw [f0]
  cases its with
  | nil=>simp
  | cons a r'=>rw [if_neg (by simp)]
 refine wpAny_binaryOp_repeat_ref (T:="list") (U:="int") (by decide) ⟨_,e,rfl⟩ (fun s'=>typeIs_int s' k t) noFill_list_mul F.fills_int_mul F.slot_int_rmul repeat_list F.slot_int_index.lookup
  (call_meets F.slot_int_rmul (typeIs_int s k t) F.entry_int_rmul (F.args_int_rmul_2 _ _) (int___rmul___int_list k t l its.toArray n)
   ⟨e,rfl,⟨_,e,rfl⟩,call_meets F.slot_list_mul ⟨_,e,rfl⟩ F.entry_list_mul (F.args_list_mul_2 _ _) (AutoListH.list___mul___list_int_3 l its.toArray n k t hfit hcap hlong) ⟨e,?_⟩⟩)
 rw [hnew]
 exact ⟨.ref _,_,I.lnew (t':=s.toks) (r.rep k.toNat) (by rw [len_rep,Nat.mul_comm];exact hz),rfl,q _ I.fresh⟩
end
end L2
namespace Att
open PySem PySem.W PySem.Calls PyProof.Rows
theorem jK {P:Params} {h:Heap}:∀ (ns:List Int) (vs:List Value),WellAll P h vs (ns.map WData.int)→IntsAre vs ns:=by
 intro ns
 induction ns with
 | nil=>
  intro vs w
  rw [List.map_nil] at w
  cases w
  exact .nil
 | cons n ns ih=>
  intro vs w
  rw [List.map_cons] at w
  cases w with
  | cons a b=>
   cases a
   exact .cons _ _ (ih _ b)
theorem script_of {l:OpenLaw} {n:Nat} (hn:l.most=some n) {P:Params} {h:Heap} {args:List WData} {vals:List Value}
    (hpre:l.row.toRowW.claim.pre args=true) (hwl:WellAll P h vals args) :
    ∃ a vs ns,vals=[Value.ref a]∧args=[WData.list (ns.map WData.int)]∧h.get? a=some { cls:=.type "list",data:=.seq vs.toArray }∧IntsAre vs ns∧ns.length≤n:=by
  have hsh:WShape.hasAll [] args [.list .int]=true:=(pre_splitW hpre).1
  have hc:l.pre.holds [] { args:=args }=true:=(pre_splitW hpre).2
  obtain ⟨d,r,rfl,h1,h2⟩:=hasAllW_cons hsh
  obtain rfl:=hasAllW_nil h2
  obtain ⟨xs,rfl,h3⟩:=hasW_list h1
  obtain ⟨ns,rfl⟩:=items_int h3
  have hlen:ns.length≤n:=by
    unfold OpenLaw.pre at hc
    have h4:(WTm.not (.lt (.lit (.int (n:Int))) (.len (.arg 0)))).holds [] { args:=[.list (ns.map .int)] }=true:=by
      have h4:=(holds_andW hc).1
      rw [hn] at h4
      exact h4
    have h5:=condW_of h4 (w_not (w_lt w_lit (w_len_list (w_arg rfl))))
    rw [List.length_map] at h5
    refine Nat.le_of_not_lt fun q=>?_
    have q':(n:Int)<((ns.length:Nat):Int):=by omega
    first
      | (rw [decide_eq_true q'] at h5;exact absurd h5 (by decide))
      | (simp at h5;omega)
  cases hwl with
  | cons w1 w2=>
    cases w2
    cases w1 with
    | list ho hall=>exact ⟨_,_,ns,rfl,rfl,ho,jK ns _ hall,hlen⟩
theorem post_true (l:OpenLaw) (args:List WData):l.row.toRowW.claim.post args (.bool true) args=true:=
 postW_of (r:=l.row.toRowW) (X:=(true==true))
  (show WShape.has [] (.bool true) .bool=true by first | rfl | decide | simp [WShape.has,WShape.arms,WShape.armsAll])
  (show (WTm.eq .res (.lit (.bool true))).value [] { args:=args,res:=some (.bool true),after:=args }=some (.bool (true==true)) from w_eq_bool (w_res rfl) w_lit) rfl
theorem attach_call {l:OpenLaw} {n:Nat} {q:Program} {loose:List Str} {XP:(Str→Option Value)→Heap→Prop} {YP:World→Heap→Prop} {d:DefRec}
  (hn:l.most=some n) (hdf:d.params.defaults=[])
  (call:∀ (w:World) (s₀ s₁:Shared) (mg mb:Str→Option Value) (fa:Addr) (o:Obj) (pm cd doc:Value) (a:Addr) (vs:List Value) (ns:List Int),
   Ground q loose [] XP w s₀ mg mb s₁.heap→YP w s₁.heap→
   s₁.heap.get? fa=some o→o.data=.func (docDef d.name d.params d.body d.scope pm cd doc)→s₁.heap.CodeRec cd d.name→mg d.name=some (.ref fa)→
   s₁.heap.get? a=some { cls:=.type "list",data:=.seq vs.toArray }→IntsAre vs ns→ns.length≤n→s₁.gens=#[]→
   codeAny (model l.prog w) callerA (.call (.ref fa) ⟨[.ref a],[]⟩) (fun r s'=>r=.ok (.ret (.bool true))∧OldK s₁.heap s'.heap∧s'.os=s₁.os∧AllBare s'.gens) s₁) :
  WalkO q loose XP YP l.row.toRowW d [] (fun f vs=>PySem.call f vs):=by
 intro w s₀ s₁ mg mb G Y fa o pm cd doc dV kV ho hd hcd hD hmg hg args vals as hpre hlay hrd hwl hlo
 obtain rfl:dV=.none:=Dflts.none hD hdf
 obtain rfl:kV=.none:=Dflts.noKw hD
 obtain ⟨a,vs,ns,rfl,rfl,hobj,hints,hlen⟩:=script_of hn hpre hwl
 refine enter_call (codeAny_mono (call w s₀ s₁ mg mb fa o pm cd doc a vs ns G Y ho (fd_plain hd) hcd hmg hobj hints hlen hg) fun r s' hq=>?_)
 obtain ⟨rfl,h2,h3,h4⟩:=hq
 exact ⟨.inl ⟨.bool true,.bool true,[],rfl,fun _=>rfl,.bool true,post_true l _,fun _=>⟨List.Pairwise.nil,fun _ hm=>(nomatch hm)⟩⟩,h2,h3,h4⟩
end Att
namespace L2
open PySem PySem.Spec PyProof.Rows
theorem kX:∀ {vs:List Value} {ns:List Int},IntsAre vs ns→aK (ns.map V.int) vs
 | _,_,.nil=>.nil
 | _,_,.cons n t h=>.cons ⟨t,rfl⟩ (kX h)
def Only (H:Hp):Prop:=∀ b,H b=none∨∃ o xs,H b=some (.frz o (.lst xs))
theorem law_call {P:Program} {w:World} {K:PySem.W.Frag} {mg mb:Str→Option Value} {CX:CXT} {k:Nat} {fa a:Addr} {fd:FuncData} {x:Str} {sp:Sp} {s₁:Shared} {vs:List Value} {ns:List Int}
  (KX:K.In s₁.heap) (hns:s₁.heap.Ns mainGlobals mg) (hb:s₁.heap.Ns builtinsNs mb) (hbb:∀ x:Str,x≠"__name__"→mb x=bootBuiltins x) (hlim:s₁.heap.NoLimit) (hg:s₁.gens=#[])
  (ha:s₁.heap.get? a=some { cls:=.type "list",data:=.seq vs.toArray }) (hi:IntsAre vs ns) (hl:ns.length≤sizeLine) (hr:bq k callerA)
  (F:∀ base:Heap,K.In base→base.Ns mainGlobals mg→dL P w K mg base CX k fa fd [x] sp) (hbind:∀ (s:Shared) (u:Value),BindsTo s fd ⟨[u],[]⟩ [(x,u)])
  (hsp:∀ H:Hp,Only H→SqL K H a (ns.map V.int)→sp [.ref a] H (fun v _=>v=.bl true) fun _ _ _=>False)
  (hCX:∀ H e s',CX [] H s₁ (fun _ _ _=>False) e s'→False) :
  codeAny (model P w) callerA (.call (.ref fa) ⟨[.ref a],[]⟩) (fun r s'=>r=.ok (.ret (.bool true))∧OldK s₁.heap s'.heap∧s'.os=s₁.os∧AllBare s'.gens) s₁:=by
 have rv:=kX hi
 have lenV:=hi.length
 have core:∀ H:Hp,Only H→SqL K H a (ns.map V.int)→HOk P w H s₁.heap→(∀ b,H b≠none→b=a)→(H a≠none→K.lookup a=none)→
   codeAny (model P w) callerA (.call (.ref fa) ⟨[.ref a],[]⟩) (fun r s'=>r=.ok (.ret (.bool true))∧OldK s₁.heap s'.heap∧s'.os=s₁.os∧AllBare s'.gens) s₁:=by
  intro H hO hS hok hA hK
  have base_of:∀ {b:Addr} {o:Obj},s₁.heap.get? b=some o→H b=none→(hidT s₁.heap H).get? b=some o:=fun e n=>hidT_get e n
  have noA:∀ {b:Addr} {o:Obj} {es:Array DictEntry} {ep:Nat},s₁.heap.get? b=some o→o.data=.dict es ep→H b=none:=fun {b o es ep} e d=>by
   cases q:H b with
   | none=>rfl
   | some u=>
    have e':b=a:=hA b (by rw [q];simp)
    subst e'
    rw [ha] at e;cases e
    have d':Data.seq vs.toArray _=Data.dict es ep:=d
    cases d'
  have nsK:∀ {b:Addr} {m:Str→Option Value},s₁.heap.Ns b m→(hidT s₁.heap H).Ns b m:=fun {b m} ⟨o,es,ep,e,d,r⟩=>⟨o,es,ep,base_of e (noA e d),d,r⟩
  have hKb:K.In (hidT s₁.heap H):=fun b o e=>base_of (KX b o e) (by
   cases q:H b with
   | none=>rfl
   | some u=>
    have e':b=a:=hA b (by rw [q];simp)
    subst e'
    rw [hK (by rw [q];simp)] at e;cases e)
  have hM:Mod K mg (hidT s₁.heap H):=⟨hKb,nsK hns,⟨mb,nsK hb,hbb⟩,let ⟨mc,h1,h2⟩:=hlim;⟨mc,nsK h1,h2⟩⟩
  have e0:Env0 P w K mg (hidT s₁.heap H) callerA [] s₁ H:=⟨rfl,hM,fun b o e=>of_hidT e,Nat.le_of_eq (hidT_size _ _),trivial,fun b hb=>absurd (show b∈([]:List Addr) from hb) (by simp),hok,.of_eq hg⟩
  refine codeAny_mono ((F _ hKb (nsK hns)).run callerA [] s₁ H ⟨[.ref a],[]⟩ [.ref a] [.ref a] _ _ hr e0 (hbind s₁ (.ref a)) (.cons rfl .nil) (hsp H hO hS)) fun r s' h=>?_
  cases r with
  | error e=>exact (hCX H e s' h).elim
  | ok fl=>
   cases fl with
   | next=>exact False.elim h
   | brk=>exact False.elim h
   | cont=>exact False.elim h
   | ret u=>
    obtain ⟨v,H',os,bare,un,hok',r',q⟩:=h
    have q':v=.bl true:=q
    subst q'
    obtain rfl:u=Value.bool true:=r'
    refine ⟨rfl,OldK.of_keep fun b o e=>?_,os,bare⟩
    cases q:H b with
    | none=>exact un.keep b o e q (by intro z;exact absurd (show b∈([]:List Addr) from z) (by simp)) (by simp)
    | some u=>
     rcases hO b with z | ⟨ob,xs,z⟩
     ·
      rw [q] at z;cases z
     ·
      have z2:=un.frzs b ob _ z
      obtain ⟨e1,_⟩:=hok b _ z
      obtain ⟨e2,_⟩:=hok' b _ z2
      rw [e] at e1;cases e1
      exact e2
 cases hk:K.lookup a with
 | some o=>
  have e:=KX a o hk
  rw [ha] at e
  cases e
  refine core (fun _=>none) (fun _=>.inl rfl) (.inr ⟨_,vs.toArray,_,hk,rfl,rfl,rfl,by rw [List.size_toArray,lenV];exact hl,by simpa using rv⟩) (fun b u z=>by have z':(none:Option HO)=some u:=z;cases z') (fun b z=>absurd rfl z) fun z=>absurd rfl z
 | none=>
  refine core (fun b=>if b=a then some (.frz { cls:=.type "list",data:=.seq vs.toArray } (.lst (ns.map V.int))) else none) (fun b=>?_) (.inl (.inr ⟨{ cls:=.type "list",data:=.seq vs.toArray },if_pos rfl⟩)) (fun b u z=>?_) (fun b z=>?_) fun _=>hk
  ·
   by_cases hb:b=a
   ·
    exact .inr ⟨_,_,if_pos hb⟩
   ·
    exact .inl (if_neg hb)
  ·
   by_cases hb:b=a
   ·
    have z':=(if_pos hb).symm.trans z
    cases z'
    subst hb
    exact ⟨ha,by rw [List.length_map];exact hl,vs,_,rv,ha⟩
   ·
    have z':=(if_neg hb).symm.trans z
    cases z'
  ·
   by_cases hb:b=a
   ·
    exact hb
   ·
    exact absurd (if_neg hb) z
end L2
namespace L2
open PySem PySem.Spec PyProof.Rows
abbrev KOf {K:PySem.W.Frag} {h:Heap} (_:K.In h):PySem.W.Frag:=K
theorem walk_of {l:PySem.W.OpenLaw} {n k:Nat} {q:Program} {loose:List Str} {XP:(Str→Option Value)→Heap→Prop} {YP:World→Heap→Prop} {d:DefRec} {K:Params→PySem.W.Frag} {CX:World→CXT} {sp:World→Sp} {x:Str}
  (hn:l.most=some n) (hn2:n≤sizeLine) (hdf:d.params.defaults=[]) (hr:bq k callerA)
  (hY:∀ (w:World) (h:Heap),YP w h→(K w.params).In h)
  (F:∀ (w:World) (mg:Str→Option Value) (fa:Addr) (h:Heap),(K w.params).In h→h.Ns mainGlobals mg→mg d.name=some (.ref fa)→
   ∃ fd:FuncData,(∀ (s:Shared) (u:Value),BindsTo s fd ⟨[u],[]⟩ [(x,u)])∧
    ∀ base:Heap,(K w.params).In base→base.Ns mainGlobals mg→dL l.prog w (K w.params) mg base (CX w) k fa fd [x] (sp w))
  (hsp:∀ (w:World) (H:Hp) (a:Addr) (ns:List Int),ns.length≤n→Only H→SqL (K w.params) H a (ns.map V.int)→sp w [.ref a] H (fun v _=>v=.bl true) fun _ _ _=>False)
  (hCX:∀ (w:World) (H:Hp) (s:Shared) (e:Value) (s':Shared),CX w [] H s (fun _ _ _=>False) e s'→False) :
  PySem.W.WalkO q loose XP YP l.row.toRowW d [] (fun f vs=>PySem.call f vs):=by
 refine Att.attach_call hn hdf fun w s₀ s₁ mg mb fa o pm cd doc a vs ns G Y ho hd hcd hmg hobj hints hlen hg=>?_
 have KX:=hY w _ Y
 obtain ⟨fd,hb,hF⟩:=F w mg fa _ KX G.T.g hmg
 exact law_call KX G.T.g G.T.b G.T.builtins G.T.nolimit hg hobj hints (Nat.le_trans hlen hn2) hr hF hb (fun H hO hS=>hsp w H a ns hlen hO hS) fun H e s'=>hCX w H s₁ e s'
theorem walk_ofK {l:PySem.W.OpenLaw} {n k:Nat} {q:Program} {loose:List Str} {XP:(Str→Option Value)→Heap→Prop} {YP:World→Heap→Prop} {d:DefRec} {K:Params→PySem.W.Frag} {CX:CXT} {sp:PySem.W.Frag→Sp} {x:Str}
  (hn:l.most=some n) (hn2:n≤sizeLine) (hdf:d.params.defaults=[]) (hr:bq k callerA)
  (hY:∀ (w:World) (h:Heap),YP w h→(K w.params).In h)
  (F:∀ (w:World) (mg:Str→Option Value) (fa:Addr) (h:Heap),(K w.params).In h→h.Ns mainGlobals mg→mg d.name=some (.ref fa)→
   ∃ fd:FuncData,(∀ (s:Shared) (u:Value),BindsTo s fd ⟨[u],[]⟩ [(x,u)])∧
    ∀ base:Heap,(K w.params).In base→base.Ns mainGlobals mg→dL l.prog w (K w.params) mg base CX k fa fd [x] (sp (K w.params)))
  (hsp:∀ (K:PySem.W.Frag) (H:Hp) (a:Addr) (ns:List Int),ns.length≤n→Only H→SqL K H a (ns.map V.int)→sp K [.ref a] H (fun v _=>v=.bl true) fun _ _ _=>False)
  (hCX:∀ (H:Hp) (s:Shared) (e:Value) (s':Shared),CX [] H s (fun _ _ _=>False) e s'→False) :
  PySem.W.WalkO q loose XP YP l.row.toRowW d [] (fun f vs=>PySem.call f vs):=
 walk_of (K:=K) (CX:=fun _=>CX) (sp:=fun w=>sp (K w.params)) hn hn2 hdf hr hY F (fun w H a ns h1 h2 h3=>hsp (K w.params) H a ns h1 h2 h3) fun _ H s e s'=>hCX H s e s'
end L2
namespace L2
open PySem PySem.Spec PyProof.Rows
def inClass (s:Stmt) (j:Nat):Stmt:=match s with
 | .ClassDef _ _ _ body _ _ _ _ _ _ _=>body.getD j (.Pass ⟨0,0,0,0⟩)
 | _=>.Pass ⟨0,0,0,0⟩
def ba (s:Stmt):Arguments:=match s with
 | .FunctionDef _ a _ _ _ _ _ _ _ _=>a
 | _=>{ posonlyargs:=[],args:=[],vararg:=none,kwonlyargs:=[],kw_defaults:=[],kwarg:=none,defaults:=[] }
def aQ (s:Stmt):List Stmt:=match s with
 | .FunctionDef _ _ b _ _ _ _ _ _ _=>b
 | _=>[]
def ap (s:Stmt):Scope:=match s with
 | .FunctionDef _ _ _ _ _ _ sc _ _ _=>sc
 | _=>{ kind:=.function,names:=[],isGenerator:=false,isCoroutine:=false }
abbrev CX0:CXT:=fun _ _ _ _ _ _=>False
abbrev E0:XK:=fun _ _ _=>False
theorem kY {X:Cx}:hE CX0 X E0:=fun _ _ _ _ _ _ _ h=>h.elim
structure Fun (K:PySem.W.Frag) (x qual:Str) (st:Stmt) (f:Addr) (fd:FuncData):Prop where
 ex:∃ (oc:Value) (od:Option Addr) (kV doc pm:Value) (an:Option Addr) (cdv ct:Value) (osl:Array (Option Value)),
  fd=PySem.W.fnOf x qual (ba st) (aQ st) (ap st) .none kV doc pm an cdv ct∧K.lookup f=some ⟨oc,od,.func fd,osl⟩∧PySem.W.codeIn K cdv qual=true
 kp:PySem.W.keepIn K (.ref f)=true
section
variable {P:Program} {w:World} {K:PySem.W.Frag} {mg:Str→Option Value} {base:Heap}
theorem Fun.ok {x qual:Str} {st:Stmt} {f:Addr} {fd:FuncData} {N ps:List Str} {k:Nat} {sp:Sp} (F:Fun K x qual st f fd) (S:dM N ps (ap st)) (len:∀ vs H Q E,sp vs H Q E→vs.length=ps.length)
  (hbody:∀ (cdv:Value) (A:Around) (outer:List Env) (s:Shared) (H:Hp) (vs:List V) (Q:VK) (E:XK),bq k (A.deeper (envOfC qual (ap st) s.heap.objs.size f cdv))→sp vs H Q E→
   ∃ t,PSs (jJ CX0 P w K mg base N qual (ap st) f cdv A outer s H E).nox (aQ st) t∧t { nx:=fun _ H'=>Q .non H',rt:=Q } (start N vs) H):dL P w K mg base CX0 (k+1) f fd ps sp:=by
 obtain ⟨oc,od,kV,doc,pm,an,cdv,ct,osl,rfl,lk,hcd⟩:=F.ex
 refine fn_of lk hcd S len fun A outer s H vs Q E hr hsp=>?_
 obtain ⟨t,h,q⟩:=hbody cdv A outer s H vs Q E hr hsp
 exact ⟨t,h.nox,q⟩
theorem Fun.binds {x qual:Str} {st:Stmt} {f:Addr} {fd:FuncData} {ps:List Str} (F:Fun K x qual st f fd)
  (h:∀ (kV doc pm:Value) (an:Option Addr) (cdv ct:Value) (us:List Value),us.length=ps.length→bindArgs (PySem.W.fnOf x qual (ba st) (aQ st) (ap st) .none kV doc pm an cdv ct) ⟨us,[]⟩=pure (ps.zip us)):Binds K fd ps []:=by
 obtain ⟨oc,od,kV,doc,pm,an,cdv,ct,osl,rfl,lk,hcd⟩:=F.ex
 exact .all (h kV doc pm an cdv ct)
theorem iZ {x qual:Str} {st:Stmt} {f:Addr} {oc:Value} {od an:Option Addr} {osl:Array (Option Value)} {kV doc pm cdv ct:Value} (l:K.lookup f=some ⟨oc,od,.func (PySem.W.fnOf x qual (ba st) (aQ st) (ap st) .none kV doc pm an cdv ct),osl⟩)
 (c:PySem.W.codeIn K cdv qual=true) (k:PySem.W.keepIn K (.ref f)=true):Fun K x qual st f (PySem.W.fnOf x qual (ba st) (aQ st) (ap st) .none kV doc pm an cdv ct):=⟨⟨oc,od,kV,doc,pm,an,cdv,ct,osl,rfl,l,c⟩,k⟩
end
section
variable {X:Cx}
theorem pv (i:Nat) {x:Str} {pos:Pos} (hN:X.N[i]?=some x:=by rfl) (hv:Vis X.env.scope x:=by first | exact Or.inl rfl | exact Or.inr (Or.inl rfl) | exact Or.inr (Or.inr rfl)) (hd:(x==("__debug__" : Str))=false:=by decide)
 (hcd:(x==("__classdict__" : Str))=false:=by decide):PE X (.Name x pos) (tVar i):=pe_var hN hv hd hcd
end
def aH (H H':Hp):Prop:=∀ b o,H b=some o→H' b=some o
theorem aH.refl (H:Hp):aH H H:=fun _ _ h=>h
theorem aH.trans {H H1 H2:Hp} (a:aH H H1) (b:aH H1 H2):aH H H2:=fun c o h=>b c o (a c o h)
theorem aH.free {H H':Hp} (e:aH H H') {l:Addr} (h:H' l=Option.none):H l=Option.none:=by
 cases q:H l with
 | none=>rfl
 | some o=>
  rw [e l o q] at h
  cases h
end L2
end
section
set_option Elab.async false
set_option linter.all false
set_option maxRecDepth 100000
namespace L2
open PySem PySem.Spec PyProof.Rows
theorem lA {prog:Program} {w:World} {A:Around} {R:Result→Shared→Prop} {s:Shared} {elt target iter:Expr} {ifs:List Expr} {scope:Scope} {pos:Pos} {it acc:Value} {env:Env} (J:Nat→Shared→Prop)
  (turn:∀ n s,J n s→wpAny (model prog w) A (pyNext it) (fun r s₁=>match r with
   | none=>R (.ok .next) s₁
   | some v=>wpAny (model prog w) A (letOwnedTupleGo target it v) (fun _ s₂=>wpAny (model prog w) A (assign target env v) (fun _ s₃=>
    wpAny (model prog w) A (forIn ifs true fun c r=>if r=true then do let ok ←isTrue c env (eval c env);pure (ForInStep.yield ok) else pure (ForInStep.yield r)) (fun ok s₄=>
     if ok=true then wpAny (model prog w) A (eval elt env) (fun x s₅=>
      wpAny (model prog w) A (call (.builtin "list.append") [acc,x]) (fun _ s₆=>∃ m,m<n∧J m s₆) (fun _ _=>False) s₅) (fun _ _=>False) s₄
     else ∃ m,m<n∧J m s₄) (fun _ _=>False) s₃) (fun _ _=>False) s₂) (fun _ _=>False) s₁) (fun _ _=>False) s)
  (n:Nat) (h:J n s) :
  codeAny (model prog w) A (.compLoop (.ListComp elt [⟨target,iter,ifs,0⟩] scope pos) 0 it acc env) R s:=by
 refine codeAny_loop rfl J (fun n s hI=>?_) n h
 show wpAny _ A ((compTurn (.ListComp elt [⟨target,iter,ifs,0⟩] scope pos) 0 it acc env).onRaise (fun x=>do noteFrame x env;theTreesLotGoes x)) _ _ s
 refine wpAny_noted ?_
 rw [compTurn_list]
 refine wpAny_bind (wpAny_standAt (wpAny_bind (wpAny_mono (turn n s hI) (fun r s₁ h₁=>?_) fun _ _ z=>z.elim)))
 cases r with
 | none=>exact wpAny_pure h₁
 | some v=>
  refine wpAny_bind (wpAny_mono h₁ (fun _ s₂ h₂=>?_) fun _ _ z=>z.elim)
  refine wpAny_bind (wpAny_mono h₂ (fun _ s₃ h₃=>wpAny_bind (wpAny_mono h₃ (fun ok s₄ h₄=>?_) fun _ _ z=>z.elim)) fun _ _ z=>z.elim)
  cases ok with
  | false=>exact wpAny_pure ⟨rfl,h₄⟩
  | true=>
   exact wpAny_bind (wpAny_bind (wpAny_mono h₄ (fun x s₅ h₅=>wpAny_bind (wpAny_mono h₅ (fun _ s₆ h₆=>wpAny_pure (wpAny_pure ⟨rfl,h₆⟩)) fun _ _ z=>z.elim)) fun _ _ z=>z.elim))
def gq (cs:List (Str×Addr)):List (Str×NameKind)→List (Str×Addr)→List (Str×Addr)
  | [],acc=>acc
  | (n,k)::r,acc=>if k==.free then gq cs r ((n,(cs.lookup n).getD 0)::acc) else gq cs r acc
theorem gT {scope:Scope} {env:Env} (h:∀ p∈scope.names,p.2=.free→∃ c,env.cells.lookup p.1=some c):closureFor scope env=pure (gq env.cells scope.names []):=by
  simp only [closureFor]
  have go:∀ (ns:List (Str×NameKind)) (acc:List (Str×Addr)),(∀ p∈ns,p.2=.free→∃ c,env.cells.lookup p.1=some c)→
      (forIn ns acc fun (x:Str×NameKind) (r:List (Str×Addr))=>(match x with | (name,kind)=>if (kind==NameKind.free)=true then do let y ←cellOf env name;pure (ForInStep.yield ((name,y)::r)) else pure (ForInStep.yield r):Sem _))=(pure (gq env.cells ns acc):Sem _):=by
    intro ns
    induction ns with
    | nil=>intro acc _;rfl
    | cons p r ih=>
      intro acc hp
      obtain ⟨n,k⟩:=p
      rw [List.forIn_cons]
      by_cases hk:k=.free
      · subst hk
        obtain ⟨c,hc⟩:=hp (n,.free) List.mem_cons_self rfl
        have hc:env.cells.lookup n=some c:=hc
        have e1:cellOf env n=pure c:=by unfold cellOf;rw [hc]
        simp only [e1,beq_self_eq_true,if_true,pure_bind,gq,hc,Option.getD_some]
        exact ih _ fun p hp'=>hp p (List.mem_cons_of_mem _ hp')
      · have hb:(k==NameKind.free)=false:=by simpa using hk
        simp only [hb,Bool.false_eq_true,if_false,pure_bind,gq]
        exact ih _ fun p hp'=>hp p (List.mem_cons_of_mem _ hp')
  have:=go scope.names [] h
  first
    | (rw [this];rfl)
    | (simp only [this];rfl)
    | simpa using this
theorem lB {cs:List (Str×Addr)} {x:Str} {c:Addr}:∀ (ns:List (Str×NameKind)) (acc:List (Str×Addr)),(∀ p∈ns,p.2=.free→∃ c,cs.lookup p.1=some c)→(gq cs ns acc).lookup x=some c→acc.lookup x=some c∨cs.lookup x=some c
  | [],acc,_,h=>.inl h
  | (n,k)::r,acc,hp,h=>by
    unfold gq at h
    by_cases hk:k=.free
    · subst hk
      simp only [beq_self_eq_true,if_true] at h
      obtain ⟨d,hd⟩:=hp (n,.free) List.mem_cons_self rfl
      have hd:cs.lookup n=some d:=hd
      rcases lB r _ (fun p hp'=>hp p (List.mem_cons_of_mem _ hp')) h with q | q
      · rw [List.lookup_cons] at q
        cases hx:x==n with
        | true=>
          rw [hx] at q
          have e:x=n:=by simpa using hx
          subst e
          rw [hd] at q
          simp at q
          exact .inr (by rw [hd,q])
        | false=>rw [hx] at q;exact .inl q
      · exact .inr q
    · have hb:(k==NameKind.free)=false:=by simpa using hk
      simp only [hb,Bool.false_eq_true,if_false] at h
      exact lB r _ (fun p hp'=>hp p (List.mem_cons_of_mem _ hp')) h
theorem j8 {cs:List (Str×Addr)} {x:Str}:∀ (ns:List (Str×NameKind)) (acc:List (Str×Addr)),(∃ c,acc.lookup x=some c)→∃ c,(gq cs ns acc).lookup x=some c
  | [],acc,h=>h
  | (n,k)::r,acc,h=>by
    unfold gq
    split
    · refine j8 r _ ?_
      rw [List.lookup_cons]
      cases hx:x==n with
      | true=>exact ⟨_,rfl⟩
      | false=>exact h
    · exact j8 r _ h
theorem il {cs:List (Str×Addr)} {x:Str}:∀ (ns:List (Str×NameKind)) (acc:List (Str×Addr)),(x,NameKind.free)∈ns→∃ c,(gq cs ns acc).lookup x=some c
  | [],_,h=>by simp at h
  | (n,k)::r,acc,h=>by
    unfold gq
    rcases List.mem_cons.mp h with e | h
    · cases e
      simp only [beq_self_eq_true,if_true]
      exact j8 r _ ⟨_,by rw [List.lookup_cons,beq_self_eq_true]⟩
    · split
      · exact il r _ h
      · exact il r _ h
theorem dN {env:Env}:∀ {names:List (Str×NameKind)} {x:Str} {k:NameKind},
    (names.map fun (n,k)=>if (k==NameKind.free&&env.scope.kind==.function&&env.kindOf n==some .cell) then (n,NameKind.cell) else (n,k)).lookup x=some k→
    names.lookup x=some k∨names.lookup x=some .free
  | [],_,_,h=>by simp at h
  | (n,k')::r,x,k,h=>by
    have ih:=@dN env r x k
    have h:List.lookup x ((if (k'==NameKind.free&&env.scope.kind==.function&&env.kindOf n==some .cell)=true then (n,NameKind.cell) else (n,k'))::(r.map fun (n,k)=>if (k==NameKind.free&&env.scope.kind==.function&&env.kindOf n==some .cell) then (n,NameKind.cell) else (n,k)))=some k:=h
    by_cases hc:(k'==NameKind.free&&env.scope.kind==.function&&env.kindOf n==some .cell)=true
    · rw [if_pos hc,List.lookup_cons] at h
      rw [List.lookup_cons]
      cases hx:x==n with
      | true=>
        have:k'=.free:=by simp at hc;exact hc.1.1
        rw [this];exact .inr rfl
      | false=>rw [hx] at h;exact ih h
    · rw [if_neg hc,List.lookup_cons] at h
      rw [List.lookup_cons]
      cases hx:x==n with
      | true=>rw [hx] at h;exact .inl h
      | false=>rw [hx] at h;exact ih h
theorem gr {env:Env} {x:Str}:∀ (ns:List (Str×NameKind)),ns.lookup x=some .free→
    (ns.map fun (n,k)=>if (k==NameKind.free&&env.scope.kind==.function&&env.kindOf n==some .cell) then (n,NameKind.cell) else (n,k)).lookup x≠some .local
  | [],h=>by simp at h
  | (n,k')::r,h=>by
    have ih:=@gr env x r
    show List.lookup x ((if (k'==NameKind.free&&env.scope.kind==.function&&env.kindOf n==some .cell)=true then (n,NameKind.cell) else (n,k'))::(r.map fun (n,k)=>if (k==NameKind.free&&env.scope.kind==.function&&env.kindOf n==some .cell) then (n,NameKind.cell) else (n,k)))≠some .local
    rw [List.lookup_cons] at h
    by_cases hc:(k'==NameKind.free&&env.scope.kind==.function&&env.kindOf n==some .cell)=true
    · rw [if_pos hc,List.lookup_cons]
      cases hx:x==n with
      | true=>intro z;cases z
      | false=>rw [hx] at h;exact ih h
    · rw [if_neg hc,List.lookup_cons]
      cases hx:x==n with
      | true=>rw [hx] at h;intro z;rw [show some k'=some NameKind.free from h] at z;cases z
      | false=>rw [hx] at h;exact ih h
def bg (X:Cx) (N:List Str) (scope:Scope) (cl:List (Str×Addr)) (C:Addr) (s:Shared) (H:Hp) (fp:List Addr):Cx:=
 { X with N:=N,s₀:=s,H₀:=H,env:=compEnvC scope cl C X.env,outer:=X.stack,stack:=X.stack,ex:=fp,fn:=fun _=>false,pn:=[],xe:=fun _ _=>False }
def PIfs (X:Cx) (ifs:List Expr) (t:TT):Prop:=
 ∀ (pins:List (Addr×Obj)) (s:Shared) (σ:St) (H:Hp) (Q:Bool→Hp→Prop),Inv X pins σ H s→t σ H Q→
  wpAny (model X.prog X.w) X.A (forIn ifs true fun c r=>if r=true then do let ok ←isTrue c X.env (eval c X.env);pure (ForInStep.yield ok) else pure (ForInStep.yield r)) (TP X pins σ Q) X.xe s
def tYes:TT:=fun _ H Q=>Q true H
theorem pifs_nil {X:Cx}:PIfs X [] tYes:=fun _ _ _ H _ I h=>wpAny_tests_nil ⟨H,I,h⟩
theorem pifs_one {X:Cx} {c:Expr} {t:TT} (hc:PT X c t):PIfs X [c] t:=fun pins s σ H Q I h=>wpAny_tests_one (hc pins s σ H Q I h)
structure cU (X:Cx) (N:List Str) (m:Nat) (ix:List Nat) (scope:Scope):Prop where
 kind:scope.kind=.function
 nocell:∀ y∈scope.names,y.2≠.cell
 names:∀ y∈scope.names,y.2=.local→scope.names.lookup y.1=some .local
 len:N.length=m+ix.length
 frees:∀ y∈scope.names,y.2=.free→X.env.kindOf y.1=some .cell∨X.env.kindOf y.1=some .free
 share:∀ (j:Nat) (i:Nat) (x:Str),ix[j]?=some i→N[m+j]?=some x→X.N[i]?=some x∧scope.names.lookup x=some .free
def fG (m:Nat) (ix:List Nat) (σ:St):St:=List.replicate m none++ix.map fun i=>(σ[i]?).join
def cLoop (J:It) (g:TG) (tt:TT) (te:TE) (D:Addr) (W:Nat→Nat→St→Hp→Prop) (Q:VK):Prop:=
 ∀ i n σ H,W i n σ H→(J.stop i H∧Q (.ref D) H)∨(J.go i H∧∃ N:St→Hp→Prop,(∀ σ' H',N σ' H'→∃ n',n'<n∧W (i+1) n' σ' H')∧
  ∀ x H',J.yld i H x H'→g x σ H' fun σ2 H2=>tt σ2 H2 fun b H3=>if b=true then te σ2 H3 fun v H4=>∃ ys,H4 D=some (.lst ys)∧ys.length<sizeLine∧N σ2 (upd H4 D (.lst (ys++[v]))) else N σ2 H3)
def tComp (wi:TI) (g:TG) (tt:TT) (te:TE) (m:Nat) (ix:List Nat):TE:=fun σ H Q=>wi σ H fun J H1=>∀ D,H1 D=none→
 ∃ W:Nat→Nat→St→Hp→Prop,(∃ n,W 0 n (fG m ix σ) (upd H1 D (.lst [])))∧cLoop J g tt te D W Q
section
variable {X:Cx} {tg elt iter:Expr} {ifs:List Expr} {scope:Scope} {pos:Pos} {N:List Str} {m:Nat} {ix:List Nat} {g:TG} {tt:TT} {te:TE}
theorem kZ {pins:List (Addr×Obj)} {s2:Shared} {σ:St} {H2:Hp} {it:Addr} {fp:List Addr} {tn:Nat→Heap→Prop} {J:It} {Q:VK} {E:Value→Shared→Prop} {RR:Value→Addr→Result→Shared→Prop}
  (I2:Inv X pins σ H2 s2) (T:Turn X.prog X.w X.K tg J fp it tn) (st2:tn 0 s2.heap) (f2:∀ b∈fp,FpOk X pins H2 b) (hc:X.calm=true) (S:cU X N m ix scope)
  (hin:∀ cl C s H fp,PG (bg X N scope cl C s H fp) tg g∧PIfs (bg X N scope cl C s H fp) ifs tt∧PE (bg X N scope cl C s H fp) elt te)
  (hW:∀ D,H2 D=none→∃ W:Nat→Nat→St→Hp→Prop,(∃ n,W 0 n (fG m ix σ) (upd H2 D (.lst [])))∧cLoop J g tt te D W Q)
  (fin:∀ D C Hf s',Inv X pins σ Hf s'→Q (.ref D) Hf→(∃ mm,s'.heap.Ns C mm)→Hf C=none→C≠X.env.locals→X.s₀.heap.objs.size≤C→(∀ x c,X.env.cells.lookup x=some c→c≠C)→(∀ p∈X.pn++pins,p.1≠C)→RR (.ref D) C (.ok .next) s') :
  wpAny (model X.prog X.w) X.A (newList []) (fun acc s₃=>wpAny (model X.prog X.w) X.A (newFunctionEnv scope X.env.globals (gq X.env.cells scope.names []) [] X.env.qual none .none (some X.env)) (fun cenv s₄=>
   codeAny (model X.prog X.w) X.A (.compStart (.ListComp elt [⟨tg,iter,ifs,0⟩] scope pos) 0 (.ref it) acc { cenv with scope:=relabel scope X.env }) (RR acc cenv.locals) s₄) E s₃) E s2:=by
 have hcl:∀ p∈scope.names,p.2=.free→∃ c,X.env.cells.lookup p.1=some c:=fun p hp hk=>I2.ok.has _ (S.frees p hp hk)
 refine wpAny_newObj_type (wpAny_newFunctionEnv S.nocell (by intro y hy;simp at hy) (fun h₁ hns₁ hsb₁=>?_) S.kind)
 dsimp only at hns₁ hsb₁ ⊢
 obtain ⟨W,⟨n0,w0⟩,loop⟩:=hW s2.heap.objs.size I2.fresh
 have I3:Inv X pins σ (upd H2 s2.heap.objs.size (.lst [])) { s2 with heap:=s2.heap.push { cls:=.type "list",dict:=none,data:=.seq ([]:List Value).toArray } }:=I2.lnew (t':=s2.toks) (ys:=[]) (its:=[]) .nil (Nat.zero_le _)
 generalize hs3:({ s2 with heap:=s2.heap.push { cls:=.type "list",dict:=none,data:=.seq ([]:List Value).toArray } }:Shared)=s3 at I3
 generalize hH3:upd H2 s2.heap.objs.size (.lst [])=H3 at I3 w0
 have e3:s3.heap=s2.heap.push { cls:=.type "list",dict:=none,data:=.seq ([]:List Value).toArray }:=by rw [←hs3]
 rw [←e3] at hns₁ hsb₁ ⊢
 generalize hC:s3.heap.objs.size=C at hns₁ hsb₁ ⊢
 have old2:∀ b o,s2.heap.get? b=some o→s3.heap.get? b=some o:=fun b o e=>by rw [e3];exact Heap.get?_push_of_some _ e
 have old3:∀ b o,s3.heap.get? b=some o→h₁.get? b=some o:=fun b o e=>hsb₁.extBut b o (by rw [←hC];exact Nat.ne_of_lt (Heap.lt_size e)) (Heap.get?_push_of_some _ e)
 have fp3:∀ b∈fp,FpOk X pins H3 b:=fun b hb=>by
  obtain ⟨f0,f1,f2',f3,f4,f5⟩:=f2 b hb
  refine ⟨?_,f1,f2',f3,f4,f5⟩
  obtain ⟨o,ho,_⟩:=T.obj _ _ st2 b hb
  rw [←hH3,aA (Nat.ne_of_lt (Heap.lt_size ho))]
  exact f0
 have hCL:X.env.locals<C:=by rw [←hC];exact I3.lt
 have hCs:X.s₀.heap.objs.size≤C:=by rw [←hC];exact I3.sz
 have hCc:∀ x c,X.env.cells.lookup x=some c→c<C:=fun x c e=>by
  obtain ⟨v,q⟩:=I3.cell x c e
  rw [←hC];exact q.lt
 have hCp:∀ p∈X.pn++pins,p.1<C:=fun p hp=>by rw [←hC];exact Heap.lt_size (I3.pin p hp).1
 have hCf:∀ b∈fp,b<C:=fun b hb=>by
  obtain ⟨o,ho,_⟩:=T.obj _ _ st2 b hb
  rw [←hC];exact Heap.lt_size (old2 _ _ ho)
 let Y:Cx:=bg X N scope (gq X.env.cells scope.names []) C s3 H3 fp
 have cells_of:∀ x c,(gq X.env.cells scope.names []).lookup x=some c→X.env.cells.lookup x=some c:=fun x c e=>by
  rcases lB _ _ hcl e with q | q
  ·
   simp at q
  ·
   exact q
 have stkne:∀ b∈fp,b∉frs X.stack:=fun b hb hs=>by
  obtain ⟨_,f1,f2',_⟩:=fp3 b hb
  rcases List.mem_cons.mp (I3.stkSub b hs) with e | e
  ·
   exact f1 e
  ·
   exact f2' e
 have okY:Y.Ok:=by
  refine ⟨I3.ok.mod,S.kind,I3.ok.glob,I3.ok.blt,by show s3.heap.objs.size≤C;rw [hC];exact Nat.le_refl _,fun x y c h1 h2=>I3.ok.inj x y c (cells_of x c h1) (cells_of y c h2),fun x hx=>?_,fun x c h _=>absurd (show false=true from h) (by simp),I3.ok.hd,I3.ok.frames,.inl rfl,fun b hb=>⟨?_,fun x c e=>?_⟩,fun b o e=>I3.bs b o e,Nat.le_trans I3.ok.bsz I3.sz,fun b o e hb=>?_,stkne,I3.stack,I3.stkFree⟩
  ·
   have hx':(relabel scope X.env).names.lookup x=some .cell∨(relabel scope X.env).names.lookup x=some .free:=hx
   have hf:scope.names.lookup x=some .free:=by
    rcases hx' with q | q
    ·
     rcases dN q with z | z
     ·
      exact absurd rfl (S.nocell _ (PySem.mem_of_lookup z))
     ·
      exact z
    ·
     rcases dN q with z | z
     ·
      exact z
     ·
      exact z
   exact il _ _ (PySem.mem_of_lookup hf)
  ·
   exact Nat.ne_of_lt (hCf b hb)
  ·
   exact (fp3 b hb).2.2.2.2.1 x c (cells_of x c e)
  ·
   rcases (fp3 b hb).2.2.2.1 with z | z
   ·
    exact I3.ok.noex b o e z
   ·
    exact absurd (Nat.lt_of_lt_of_le (Heap.lt_size (I3.ok.bs b o e).1) z) (Nat.lt_irrefl _)
 have IY:Inv Y (X.pn++pins) (fG m ix σ) H3 { s3 with heap:=h₁,toks:=s3.toks+([]:List (Str×Value)).length }:=by
  refine ⟨okY,rfl,I3.bare,Un.kept old3,⟨_,hns₁,fun j x v hx hv hvis=>?_⟩,fun x c e=>?_,I3.hok.fresh (by rw [hC];exact Nat.le_refl _),fun x c e=>I3.freeC x c (cells_of x c e),fun p hp=>?_,I3.hok.kept old3,?_⟩
  ·
   have hx:N[j]?=some x:=hx
   unfold fG at hv
   by_cases hj:j<m
   ·
    rw [List.getElem?_append_left (by simpa using hj),List.getElem?_replicate] at hv
    split at hv <;> cases hv
   ·
    obtain ⟨k,rfl⟩ : ∃ k,j=m+k:=⟨j-m,by omega⟩
    rw [List.getElem?_append_right (by simp),List.length_replicate,Nat.add_sub_cancel_left,List.getElem?_map] at hv
    cases hi:ix[k]? with
    | none=>rw [hi] at hv;cases hv
    | some i=>
     rw [hi] at hv
     have hv':(σ[i]?).join=some v:=by simpa using hv
     have hv'':σ[i]?=some (some v):=by
      cases q:σ[i]? with
      | none=>rw [q] at hv';cases hv'
      | some z=>rw [q] at hv';simp at hv';rw [hv']
     obtain ⟨hXN,hfree⟩:=S.share k i x hi hx
     obtain ⟨mm,hn,hl⟩:=I3.loc
     have hkx:X.env.kindOf x=some .cell∨X.env.kindOf x=some .free:=S.frees (x,.free) (PySem.mem_of_lookup hfree) rfl
     have hvisX:Vis X.env.scope x:=by
      rcases hkx with q | q
      ·
       exact .inr (.inl q)
      ·
       exact .inr (.inr q)
     obtain ⟨u,r,l⟩:=hl i x v hXN hv'' hvisX
     refine ⟨u,r,.inr ⟨?_,?_⟩⟩
     ·
      have hvis:Vis (relabel scope X.env) x:=hvis
      rcases hvis with q | q | q
      ·
       rcases dN q with z | z
       ·
        rw [hfree] at z;cases z
       ·
        exact absurd q (gr scope.names hfree)
      ·
       exact .inl q
      ·
       exact .inr q
     ·
      obtain ⟨c,hcc⟩:=il (cs:=X.env.cells) scope.names [] (PySem.mem_of_lookup hfree)
      refine ⟨c,hcc,?_⟩
      have hXc:=cells_of x c hcc
      rcases l with ⟨k1,_⟩ | ⟨_,c',e',z⟩
      ·
       exfalso
       have k1:X.env.kindOf x=some .local:=k1
       rcases hkx with q | q <;> rw [k1] at q <;> cases q
      ·
       rw [hXc] at e';cases e'
       obtain ⟨o,ho,hd⟩:=z
       exact ⟨o,old3 _ _ ho,hd⟩
  ·
   obtain ⟨v,o,ho,hd⟩:=I3.cell x c (cells_of x c e)
   exact ⟨v,o,old3 _ _ ho,hd⟩
  ·
   have hp':p∈X.pn++pins:=by
    have:p∈([]:List (Addr×Obj))++(X.pn++pins):=hp
    simpa using this
   obtain ⟨e,nn,ne,nf,d⟩:=I3.pin p hp'
   refine ⟨old3 _ _ e,nn,Nat.ne_of_lt (hCp p hp'),fun hs=>?_,d⟩
   rcases List.mem_cons.mp (I3.stkSub p.1 hs) with z | z
   ·
    exact ne z
   ·
    exact nf z
  ·
   unfold fG
   show _=N.length
   rw [S.len,List.length_append,List.length_replicate,List.length_map]
 have stat:∀ {H':Hp},(∀ b∈fp,H' b=none)→∀ b∈fp,FpOk Y (X.pn++pins) H' b:=fun hn b hb=>by
  obtain ⟨f0,f1,f2',f3,f4,f5⟩:=fp3 b hb
  refine ⟨hn b hb,Nat.ne_of_lt (hCf b hb),stkne b hb,.inl hb,fun x c e=>f4 x c (cells_of x c e),fun p hp=>?_⟩
  have hp':p∈X.pn++pins:=by
   have:p∈([]:List (Addr×Obj))++(X.pn++pins):=hp
   simpa using this
  exact f5 p hp'
 obtain ⟨hg,ht,he⟩:=hin (gq X.env.cells scope.names []) C s3 H3 fp
 have st4:tn 0 h₁:=T.keep _ _ _ st2 fun b _ o e=>old3 _ _ (old2 _ _ e)
 have run:∀ s4:Shared,s4={ s3 with heap:=h₁,toks:=s3.toks+([]:List (Str×Value)).length }→
   codeAny (model X.prog X.w) X.A (.compLoop (.ListComp elt [⟨tg,iter,ifs,0⟩] scope pos) 0 (.ref it) (.ref s2.heap.objs.size) (compEnvC scope (gq X.env.cells scope.names []) C X.env)) (RR (.ref s2.heap.objs.size) C) s4:=by
  rintro s4 rfl
  refine lA (fun n s'=>∃ i σ' H',Inv Y (X.pn++pins) σ' H' s'∧tn i s'.heap∧(∀ b∈fp,H' b=none)∧W i n σ' H') ?_ n0 ⟨0,_,_,IY,st4,fun b hb=>(fp3 b hb).1,w0⟩
  rintro n s5 ⟨i,σ5,H5,I5,st5,fr5,w5⟩
  rcases loop i n σ5 H5 w5 with ⟨stop,qn⟩ | ⟨go,NN,hN,step⟩
  ·
   refine thn (T.done Y rfl rfl rfl hc i (X.pn++pins) s5 σ5 H5 (fun _ _=>False) I5 (stat fr5) st5 stop) fun r s6 ⟨hr,I6⟩=>?_
   subst hr
   have J6:Inv X pins σ H5 s6:=by
    refine I3.call' (ch:=fp) ?_ I6.base I6.hok I6.bare fun b hb=>?_
    ·
     exact I6.os
    ·
     obtain ⟨f0,f1,f2',f3,f4,f5⟩:=fp3 b hb
     exact ⟨f3,f1,f4,f5⟩
   obtain ⟨mm,hn6,_⟩:=I6.loc
   exact fin _ C H5 s6 J6 qn ⟨mm,hn6⟩ I6.free (Nat.ne_of_gt hCL) hCs (fun x c e=>Nat.ne_of_lt (hCc x c e)) fun p hp=>Nat.ne_of_lt (hCp p hp)
  ·
   refine thn (T.item Y rfl rfl rfl hc i (X.pn++pins) s5 σ5 H5 (fun _ _=>False) I5 (stat fr5) st5 go) fun r s6 ⟨u,hr,h6⟩=>?_
   subst hr
   refine thn h6 fun _ s7 ⟨x,H7,I7,r7,y7,st7,fr7⟩=>?_
   have I7':=I7.pinned (stat fr7) (T.obj _ _ st7)
   refine thn (hg _ s7 σ5 H7 x u _ I7' r7 (step x H7 y7)) fun _ s8 ⟨σ8,H8,I8,q8⟩=>?_
   refine thn (ht _ s8 σ8 H8 _ I8 q8) fun ok s9 ⟨H9,I9,q9⟩=>?_
   have again:∀ {s':Shared} {σ':St} {H':Hp},Inv Y ((X.pn++pins)++j5 fp s7.heap) σ' H' s'→NN σ' H'→∃ m',m'<n∧∃ i σ' H',Inv Y (X.pn++pins) σ' H' s'∧tn i s'.heap∧(∀ b∈fp,H' b=none)∧W i m' σ' H':=fun {s' σ' H'} I' n'=>by
    obtain ⟨m',hm,w'⟩:=hN σ' H' n'
    refine ⟨m',hm,i+1,σ',H',I'.unpinned,T.keep _ _ _ st7 fun b hb o e=>(I'.pin (b,o) (List.mem_append_right _ (List.mem_append_right _ (fE hb e)))).1,fun b hb=>?_,w'⟩
    obtain ⟨o,e,d⟩:=T.obj _ _ st7 b hb
    exact (I'.pin (b,o) (List.mem_append_right _ (List.mem_append_right _ (fE hb e)))).2.1
   cases ok with
   | false=>exact again I9 q9
   | true=>
    refine thn (he _ s9 σ8 H9 _ I9 q9) fun y s10 ⟨vy,H10,I10,r10,ys,hD,hz,q10⟩=>?_
    exact thn (iY (X:=Y) _ s10 σ8 H10 (.ref s2.heap.objs.size) [vy] _ [y] (fun _ H'=>NN σ8 H') I10 rfl (.cons r10 .nil) ⟨_,ys,vy,rfl,rfl,hD,hz,q10⟩) fun _ s11 ⟨_,H11,I11,_,q11⟩=>again I11 q11
 exact codeAny_compStart_list (run _ (by rw [←hs3])) (T.self _ 0 _ _ _ st4 (run _ (by rw [←hs3])))
theorem pe_comp {wi:TI} (hc:X.calm=true) (S:cU X N m ix scope) (hi:PI X tg iter wi)
  (hin:∀ cl C s H fp,PG (bg X N scope cl C s H fp) tg g∧PIfs (bg X N scope cl C s H fp) ifs tt∧PE (bg X N scope cl C s H fp) elt te)
  (hs:∀ x,foldedSetIterable iter X.env x=pure x:=by intro _;rfl):PE X (.ListComp elt [⟨tg,iter,ifs,0⟩] scope pos) (tComp wi g tt te m ix):=by
 intro pins s σ H Q I h
 rw [eval_ListComp]
 refine wpAny_comprehension_free (use:=none) rfl hs (gT fun p hp hk=>I.ok.has _ (S.frees p hp hk)) S.kind S.names ?_
 show wpAny _ _ (eval iter X.env) _ _ _
 refine thn (hi pins s σ H _ I h) fun v s1 h1=>thn h1 fun itv s2 h2=>?_
 obtain ⟨it,fp,tn,J,H2,rfl,I2,T,st2,f2,hW⟩:=h2
 refine kZ (RR:=fun acc C=>compPost (model X.prog X.w) X.A X.xe none (EP X pins σ Q) acc C) I2 T st2 f2 hc S hin hW ?_
 intro D C Hf s' J' q hn hCf hCL hCs hCc hCp
 obtain ⟨mm,hn⟩:=hn
 refine ⟨mm,hn,fun h' hs'=>⟨.ref D,Hf,?_,rfl,q⟩⟩
 exact J'.turned (t':=s'.toks) (fun b o hb e=>hs'.extBut b o hb e) hCf hCL (.inr hCs) hCc hCp
theorem ps_comp {wi:TI} {y:Str} {py spos:Pos} {iy:Nat} (hc:X.calm=true) (S:cU X N m ix scope) (hi:PI X tg iter wi)
  (hin:∀ cl C s H fp,PG (bg X N scope cl C s H fp) tg g∧PIfs (bg X N scope cl C s H fp) ifs tt∧PE (bg X N scope cl C s H fp) elt te)
  (hN:X.N.Nodup) (hiy:X.N[iy]?=some y) (hy:Loc X.env.scope y)
  (hsw:swapsWith (.ListComp elt [⟨tg,iter,ifs,0⟩] scope pos) (some (.Name y py)) spos.line X.env=pure true:=by rfl)
  (hf:X.fn y=true∨X.env.scope.names.lookup y=some .local:=by first | exact .inl rfl | exact .inr rfl | assumption)
  (hs:∀ x,foldedSetIterable iter X.env x=pure x:=by intro _;rfl):PS X (.Assign [.Name y py] (.ListComp elt [⟨tg,iter,ifs,0⟩] scope pos) spos) (tAsg (tComp wi g tt te m ix) (kR iy)):=by
 intro pins s σ H D0 I h
 rw [exec_Assign_Name_used _ _ _ _ hsw]
 refine wpAny_bind (wpAny_standAt (wpAny_bind ?_))
 show wpAny _ X.A (do let _ ←comprehension (.ListComp elt [⟨tg,iter,ifs,0⟩] scope pos) scope X.env _ (newList []) false (eval iter X.env) (some (assign (.Name y py) X.env))) _ _ s
 refine wpAny_bind (wpAny_mono (wpAny_comprehension_free (use:=some (assign (.Name y py) X.env)) (Q:=fun _ s'=>SP X pins D0 .next s') rfl hs (gT fun p hp hk=>I.ok.has _ (S.frees p hp hk)) S.kind S.names ?_) (fun _ s' hq=>wpAny_pure (wpAny_pure hq)) fun _ _ e=>e)
 refine thn (hi pins s σ H _ I h) fun v s1 h1=>thn h1 fun itv s2 h2=>?_
 obtain ⟨it,fp,tn,J,H2,rfl,I2,T,st2,f2,hW⟩:=h2
 refine kZ (RR:=fun acc C=>compPost (model X.prog X.w) X.A X.xe (some (assign (.Name y py) X.env)) (fun _ s'=>SP X pins D0 .next s') acc C) I2 T st2 f2 hc S hin hW ?_
 intro D C Hf s' J' q hn hCf hCL hCs hCc hCp
 obtain ⟨mm,hn⟩:=hn
 show wpAny _ X.A (assign (.Name y py) X.env (.ref D)) _ _ _
 refine wpAny_assign_Name (kQ (v:=.ref D) J' hN hiy hy rfl (fun s'' I'' hsb=>?_) hf)
 obtain ⟨a,hsb,ha⟩:=hsb
 have hCa:C≠a:=by
  rcases ha with e | e
  ·
   rw [e];exact hCL
  ·
   exact fun z=>hCc y a e z.symm
 refine ⟨mm,hn.sameBut hsb hCa,fun h' hs'=>⟨_,Hf,?_,q⟩⟩
 exact I''.turned (t':=s''.toks) (fun b o hb e=>hs'.extBut b o hb e) hCf hCL (.inr hCs) hCc hCp
end
end L2
end
section
set_option Elab.async false
set_option linter.all false
set_option maxRecDepth 100000
namespace L2
open PySem PySem.Spec
theorem aH.updS {H H':Hp} (s:aH H H') {p:Addr} {o:HO}:aH (upd H p o) (upd H' p o):=fun b u e=>by
 by_cases hb:b=p
 ·
  subst hb;rw [ax] at e ⊢;exact e
 ·
  rw [aA hb] at e ⊢;exact s _ _ e
theorem aH.new {H:Hp} {p:Addr} {o:HO} (n:H p=none):aH H (upd H p o):=fun b u e=>by rw [aA (aN e n)];exact e
theorem PE.weak {X:Cx} {e:Expr} {t t':TE} (h:PE X e t) (w:∀ σ H Q,t' σ H Q→t σ H Q):PE X e t':=fun pins s σ H Q I q=>h pins s σ H Q I (w σ H Q q)
theorem PT.weak {X:Cx} {e:Expr} {t t':TT} (h:PT X e t) (w:∀ σ H Q,t' σ H Q→t σ H Q):PT X e t':=fun pins s σ H Q I q=>h pins s σ H Q I (w σ H Q q)
theorem PW.weak {X:Cx} {e:Expr} {t t':TT} (h:PW X e t) (w:∀ σ H Q,t' σ H Q→t σ H Q):PW X e t':=fun wh pins s σ H Q I q=>h wh pins s σ H Q I (w σ H Q q)
theorem PA.weak {X:Cx} {es:List Expr} {t t':TA} (h:PA X es t) (w:∀ σ H Q,t' σ H Q→t σ H Q):PA X es t':=fun pos pins s σ H Q I q=>h pos pins s σ H Q I (w σ H Q q)
theorem PS.weak {X:Cx} {e:Stmt} {t t':TS} (h:PS X e t) (w:∀ D σ H,t' D σ H→t D σ H):PS X e t':=fun pins s σ H D I q=>h pins s σ H D I (w D σ H q)
theorem PSs.weak {X:Cx} {e:List Stmt} {t t':TS} (h:PSs X e t) (w:∀ D σ H,t' D σ H→t D σ H):PSs X e t':=fun pins s σ H D I q=>h pins s σ H D I (w D σ H q)
end L2
namespace Ew
open PySem PySem.Spec L2
inductive D where
 | non
 | bl (b:Bool)
 | int (i:Int)
 | str (x:Str)
 | lst (xs:List D)
 | tup (xs:List D)
 | obj (C:Addr) (fs:List (Str×D))
mutual
def Rep (H:Hp):D→V→Prop
 | .non,v=>v=.non
 | .bl b,v=>v=.bl b
 | .int i,v=>v=.int i
 | .str x,v=>v=.str x
 | .lst ds,v=>∃ a vs,v=.ref a∧H a=some (.lst vs)∧ay H ds vs
 | .tup ds,v=>∃ a vs,v=.ref a∧H a=some (.tup vs)∧ay H ds vs
 | .obj C fs,v=>∃ a dx fvs,v=.ref a∧H a=some (.ins C dx fvs)∧dr H fs fvs
def ay (H:Hp):List D→List V→Prop
 | [],vs=>vs=[]
 | d::ds,vs=>∃ v r,vs=v::r∧Rep H d v∧ay H ds r
def dr (H:Hp):List (Str×D)→List (Str×V)→Prop
 | [],vs=>vs=[]
 | fd::fs,vs=>∃ v r,vs=(fd.1,v)::r∧Rep H fd.2 v∧dr H fs r
end
section
variable {H H':Hp}
mutual
theorem Rep.mono (k:aH H H'):∀ (d:D) {v:V},Rep H d v→Rep H' d v
 | .non,_,h=>by unfold Rep at h ⊢;exact h
 | .bl b,_,h=>by unfold Rep at h ⊢;exact h
 | .int i,_,h=>by unfold Rep at h ⊢;exact h
 | .str x,_,h=>by unfold Rep at h ⊢;exact h
 | .lst ds,_,h=>by
  unfold Rep at h ⊢
  obtain ⟨a,vs,e,h1,h2⟩:=h
  exact ⟨a,vs,e,k _ _ h1,ay.mono k ds h2⟩
 | .tup ds,_,h=>by
  unfold Rep at h ⊢
  obtain ⟨a,vs,e,h1,h2⟩:=h
  exact ⟨a,vs,e,k _ _ h1,ay.mono k ds h2⟩
 | .obj C fs,_,h=>by
  unfold Rep at h ⊢
  obtain ⟨a,dx,vs,e,h1,h2⟩:=h
  exact ⟨a,dx,vs,e,k _ _ h1,dr.mono k fs h2⟩
theorem ay.mono (k:aH H H'):∀ (ds:List D) {vs:List V},ay H ds vs→ay H' ds vs
 | [],_,h=>by unfold ay at h ⊢;exact h
 | d::ds,_,h=>by
  unfold ay at h ⊢
  obtain ⟨v,r,e,h1,h2⟩:=h
  exact ⟨v,r,e,Rep.mono k d h1,ay.mono k ds h2⟩
theorem dr.mono (k:aH H H'):∀ (fs:List (Str×D)) {vs:List (Str×V)},dr H fs vs→dr H' fs vs
  | [],_,h=>by unfold dr at h ⊢;exact h
  | (f,d)::fs,_,h=>by
    unfold dr at h ⊢
    obtain ⟨v,r,e,h1,h2⟩:=h
    exact ⟨v,r,e,Rep.mono k d h1,dr.mono k fs h2⟩
end
end
theorem ay.nil {H:Hp}:ay H [] []:=by unfold ay;rfl
theorem ay.cons {H:Hp} {d:D} {ds:List D} {v:V} {vs:List V} (h:Rep H d v) (t:ay H ds vs):ay H (d::ds) (v::vs):=by unfold ay;exact ⟨v,vs,rfl,h,t⟩
theorem ay.length {H:Hp}:∀ {ds:List D} {vs:List V},ay H ds vs→vs.length=ds.length
 | [],_,h=>by unfold ay at h;rw [h];rfl
 | d::ds,_,h=>by
  unfold ay at h
  obtain ⟨v,r,rfl,_,h2⟩:=h
  simp [ay.length h2]
theorem ay.get {H:Hp}:∀ {ds:List D} {vs:List V} {i:Nat} {d:D},ay H ds vs→ds[i]?=some d→∃ v,vs[i]?=some v∧Rep H d v
 | [],_,i,_,_,e=>by simp at e
 | d::ds,_,0,d',h,e=>by
  unfold ay at h
  obtain ⟨v,r,rfl,h1,h2⟩:=h
  simp at e;subst e
  exact ⟨v,rfl,h1⟩
 | d::ds,_,i+1,d',h,e=>by
  unfold ay at h
  obtain ⟨v,r,rfl,h1,h2⟩:=h
  obtain ⟨u,e1,e2⟩:=ay.get (i:=i) h2 (by simpa using e)
  exact ⟨u,by simpa using e1,e2⟩
theorem ay.append {H:Hp}:∀ {ds es:List D} {vs us:List V},ay H ds vs→ay H es us→ay H (ds++es) (vs++us)
 | [],_,_,_,h,t=>by unfold ay at h;rw [h];exact t
 | d::ds,_,_,_,h,t=>by
  unfold ay at h
  obtain ⟨v,r,rfl,h1,h2⟩:=h
  exact .cons h1 (ay.append h2 t)
theorem ay.take {H:Hp}:∀ {ds:List D} {vs:List V} (n:Nat),ay H ds vs→ay H (ds.take n) (vs.take n)
 | [],_,n,h=>by unfold ay at h;rw [h];simp;exact .nil
 | d::ds,_,0,h=>by simp;exact .nil
 | d::ds,_,n+1,h=>by
  unfold ay at h
  obtain ⟨v,r,rfl,h1,h2⟩:=h
  exact .cons h1 (ay.take n h2)
theorem ay.drop {H:Hp}:∀ {ds:List D} {vs:List V} (n:Nat),ay H ds vs→ay H (ds.drop n) (vs.drop n)
 | [],_,n,h=>by unfold ay at h;rw [h];simp;exact .nil
 | d::ds,_,0,h=>by simpa using h
 | d::ds,_,n+1,h=>by
  unfold ay at h
  obtain ⟨v,r,rfl,h1,h2⟩:=h
  exact ay.drop n h2
theorem ay.reverse {H:Hp}:∀ {ds:List D} {vs:List V},ay H ds vs→ay H ds.reverse vs.reverse
 | [],_,h=>by unfold ay at h;rw [h];simp;exact .nil
 | d::ds,_,h=>by
  unfold ay at h
  obtain ⟨v,r,rfl,h1,h2⟩:=h
  rw [List.reverse_cons,List.reverse_cons]
  exact ay.append (ay.reverse h2) (.cons h1 .nil)
theorem dr.lookup {H:Hp} {f:Str}:∀ {fs:List (Str×D)} {vs:List (Str×V)} {d:D},dr H fs vs→fs.lookup f=some d→∃ v,vs.lookup f=some v∧Rep H d v
  | [],_,_,_,e=>by simp at e
  | (g,d')::fs,_,d,h,e=>by
    unfold dr at h
    obtain ⟨v,r,rfl,h1,h2⟩:=h
    rw [List.lookup_cons] at e ⊢
    cases hx:f==g with
    | true=>rw [hx] at e;simp at e;subst e;exact ⟨v,by simp,h1⟩
    | false=>rw [hx] at e;exact dr.lookup h2 e
theorem dr.none {H:Hp} {f:Str}:∀ {fs:List (Str×D)} {vs:List (Str×V)},dr H fs vs→fs.lookup f=none→vs.lookup f=none
  | [],_,h,e=>by unfold dr at h;rw [h];rfl
  | (g,d')::fs,_,h,e=>by
    unfold dr at h
    obtain ⟨v,r,rfl,h1,h2⟩:=h
    rw [List.lookup_cons] at e ⊢
    cases hx:f==g with
    | true=>rw [hx] at e;simp at e
    | false=>rw [hx] at e;exact dr.none h2 e
mutual
def Own (H:Hp):D→V→List Addr→Prop
 | .non,v,L=>v=.non∧L=[]
 | .bl b,v,L=>v=.bl b∧L=[]
 | .int i,v,L=>v=.int i∧L=[]
 | .str x,v,L=>v=.str x∧L=[]
 | .lst ds,v,L=>∃ a vs M,v=.ref a∧H a=some (.lst vs)∧aF H ds vs M∧a∉M∧L=a::M
 | .tup ds,v,L=>∃ a vs M,v=.ref a∧H a=some (.tup vs)∧aF H ds vs M∧a∉M∧L=a::M
 | .obj C fs,v,L=>∃ a dx fvs M,v=.ref a∧H a=some (.ins C dx fvs)∧H dx=some (.own a)∧aU H fs fvs M∧a∉M∧dx∉M∧L=a::dx::M
def aF (H:Hp):List D→List V→List Addr→Prop
 | [],vs,L=>vs=[]∧L=[]
 | d::ds,vs,L=>∃ v r M N,vs=v::r∧Own H d v M∧aF H ds r N∧(∀ a∈M,a∉N)∧L=M++N
def aU (H:Hp):List (Str×D)→List (Str×V)→List Addr→Prop
 | [],vs,L=>vs=[]∧L=[]
 | fd::fs,vs,L=>∃ v r M N,vs=(fd.1,v)::r∧Own H fd.2 v M∧aU H fs r N∧(∀ a∈M,a∉N)∧L=M++N
end
section
variable {H H':Hp}
mutual
theorem Own.agree:∀ (d:D) {v:V} {L:List Addr},Own H d v L→(∀ a∈L,H' a=H a)→Own H' d v L
 | .non,_,_,h,_=>by unfold Own at h ⊢;exact h
 | .bl b,_,_,h,_=>by unfold Own at h ⊢;exact h
 | .int i,_,_,h,_=>by unfold Own at h ⊢;exact h
 | .str x,_,_,h,_=>by unfold Own at h ⊢;exact h
 | .lst ds,_,_,h,k=>by
  unfold Own at h ⊢
  obtain ⟨a,vs,M,e,h1,h2,n,rfl⟩:=h
  exact ⟨a,vs,M,e,by rw [k a List.mem_cons_self];exact h1,aF.agree ds h2 fun b hb=>k b (List.mem_cons_of_mem _ hb),n,rfl⟩
 | .tup ds,_,_,h,k=>by
  unfold Own at h ⊢
  obtain ⟨a,vs,M,e,h1,h2,n,rfl⟩:=h
  exact ⟨a,vs,M,e,by rw [k a List.mem_cons_self];exact h1,aF.agree ds h2 fun b hb=>k b (List.mem_cons_of_mem _ hb),n,rfl⟩
 | .obj C fs,_,_,h,k=>by
  unfold Own at h ⊢
  obtain ⟨a,dx,vs,M,e,h1,h3,h2,n,n2,rfl⟩:=h
  exact ⟨a,dx,vs,M,e,by rw [k a List.mem_cons_self];exact h1,by rw [k dx (List.mem_cons_of_mem _ List.mem_cons_self)];exact h3,aU.agree fs h2 fun b hb=>k b (List.mem_cons_of_mem _ (List.mem_cons_of_mem _ hb)),n,n2,rfl⟩
theorem aF.agree:∀ (ds:List D) {vs:List V} {L:List Addr},aF H ds vs L→(∀ a∈L,H' a=H a)→aF H' ds vs L
 | [],_,_,h,_=>by unfold aF at h ⊢;exact h
 | d::ds,_,_,h,k=>by
  unfold aF at h ⊢
  obtain ⟨v,r,M,N,e,h1,h2,n,rfl⟩:=h
  exact ⟨v,r,M,N,e,Own.agree d h1 fun b hb=>k b (List.mem_append_left _ hb),aF.agree ds h2 fun b hb=>k b (List.mem_append_right _ hb),n,rfl⟩
theorem aU.agree:∀ (fs:List (Str×D)) {vs:List (Str×V)} {L:List Addr},aU H fs vs L→(∀ a∈L,H' a=H a)→aU H' fs vs L
  | [],_,_,h,_=>by unfold aU at h ⊢;exact h
  | (f,d)::fs,_,_,h,k=>by
    unfold aU at h ⊢
    obtain ⟨v,r,M,N,e,h1,h2,n,rfl⟩:=h
    exact ⟨v,r,M,N,e,Own.agree d h1 fun b hb=>k b (List.mem_append_left _ hb),aU.agree fs h2 fun b hb=>k b (List.mem_append_right _ hb),n,rfl⟩
end
mutual
theorem Own.rep:∀ (d:D) {v:V} {L:List Addr},Own H d v L→(∀ a∈L,H' a=H a)→Rep H' d v
 | .non,_,_,h,_=>by unfold Own at h;unfold Rep;exact h.1
 | .bl b,_,_,h,_=>by unfold Own at h;unfold Rep;exact h.1
 | .int i,_,_,h,_=>by unfold Own at h;unfold Rep;exact h.1
 | .str x,_,_,h,_=>by unfold Own at h;unfold Rep;exact h.1
 | .lst ds,_,_,h,k=>by
  unfold Own at h;unfold Rep
  obtain ⟨a,vs,M,e,h1,h2,n,rfl⟩:=h
  exact ⟨a,vs,e,by rw [k a List.mem_cons_self];exact h1,aF.rep ds h2 fun b hb=>k b (List.mem_cons_of_mem _ hb)⟩
 | .tup ds,_,_,h,k=>by
  unfold Own at h;unfold Rep
  obtain ⟨a,vs,M,e,h1,h2,n,rfl⟩:=h
  exact ⟨a,vs,e,by rw [k a List.mem_cons_self];exact h1,aF.rep ds h2 fun b hb=>k b (List.mem_cons_of_mem _ hb)⟩
 | .obj C fs,_,_,h,k=>by
  unfold Own at h;unfold Rep
  obtain ⟨a,dx,vs,M,e,h1,h3,h2,n,n2,rfl⟩:=h
  exact ⟨a,dx,vs,e,by rw [k a List.mem_cons_self];exact h1,aU.rep fs h2 fun b hb=>k b (List.mem_cons_of_mem _ (List.mem_cons_of_mem _ hb))⟩
theorem aF.rep:∀ (ds:List D) {vs:List V} {L:List Addr},aF H ds vs L→(∀ a∈L,H' a=H a)→ay H' ds vs
 | [],_,_,h,_=>by unfold aF at h;unfold ay;exact h.1
 | d::ds,_,_,h,k=>by
  unfold aF at h;unfold ay
  obtain ⟨v,r,M,N,e,h1,h2,n,rfl⟩:=h
  exact ⟨v,r,e,Own.rep d h1 fun b hb=>k b (List.mem_append_left _ hb),aF.rep ds h2 fun b hb=>k b (List.mem_append_right _ hb)⟩
theorem aU.rep:∀ (fs:List (Str×D)) {vs:List (Str×V)} {L:List Addr},aU H fs vs L→(∀ a∈L,H' a=H a)→dr H' fs vs
  | [],_,_,h,_=>by unfold aU at h;unfold dr;exact h.1
  | (f,d)::fs,_,_,h,k=>by
    unfold aU at h;unfold dr
    obtain ⟨v,r,M,N,e,h1,h2,n,rfl⟩:=h
    exact ⟨v,r,e,Own.rep d h1 fun b hb=>k b (List.mem_append_left _ hb),aU.rep fs h2 fun b hb=>k b (List.mem_append_right _ hb)⟩
end
mutual
theorem Own.cell:∀ (d:D) {v:V} {L:List Addr},Own H d v L→∀ a∈L,∃ o,H a=some o
 | .non,_,_,h=>by unfold Own at h;rw [h.2];intro a ha;cases ha
 | .bl b,_,_,h=>by unfold Own at h;rw [h.2];intro a ha;cases ha
 | .int i,_,_,h=>by unfold Own at h;rw [h.2];intro a ha;cases ha
 | .str x,_,_,h=>by unfold Own at h;rw [h.2];intro a ha;cases ha
 | .lst ds,_,_,h=>by
  unfold Own at h
  obtain ⟨a,vs,M,e,h1,h2,n,rfl⟩:=h
  intro b hb
  rcases List.mem_cons.mp hb with rfl | hb
  ·
   exact ⟨_,h1⟩
  ·
   exact aF.cell ds h2 b hb
 | .tup ds,_,_,h=>by
  unfold Own at h
  obtain ⟨a,vs,M,e,h1,h2,n,rfl⟩:=h
  intro b hb
  rcases List.mem_cons.mp hb with rfl | hb
  ·
   exact ⟨_,h1⟩
  ·
   exact aF.cell ds h2 b hb
 | .obj C fs,_,_,h=>by
  unfold Own at h
  obtain ⟨a,dx,vs,M,e,h1,h3,h2,n,n2,rfl⟩:=h
  intro b hb
  rcases List.mem_cons.mp hb with rfl | hb
  ·
   exact ⟨_,h1⟩
  ·
   rcases List.mem_cons.mp hb with rfl | hb
   ·
    exact ⟨_,h3⟩
   ·
    exact aU.cell fs h2 b hb
theorem aF.cell:∀ (ds:List D) {vs:List V} {L:List Addr},aF H ds vs L→∀ a∈L,∃ o,H a=some o
 | [],_,_,h=>by unfold aF at h;rw [h.2];intro a ha;cases ha
 | d::ds,_,_,h=>by
  unfold aF at h
  obtain ⟨v,r,M,N,e,h1,h2,n,rfl⟩:=h
  intro b hb
  rcases List.mem_append.mp hb with hb | hb
  ·
   exact Own.cell d h1 b hb
  ·
   exact aF.cell ds h2 b hb
theorem aU.cell:∀ (fs:List (Str×D)) {vs:List (Str×V)} {L:List Addr},aU H fs vs L→∀ a∈L,∃ o,H a=some o
  | [],_,_,h=>by unfold aU at h;rw [h.2];intro a ha;cases ha
  | (f,d)::fs,_,_,h=>by
    unfold aU at h
    obtain ⟨v,r,M,N,e,h1,h2,n,rfl⟩:=h
    intro b hb
    rcases List.mem_append.mp hb with hb | hb
    · exact Own.cell d h1 b hb
    · exact aU.cell fs h2 b hb
end
mutual
theorem Own.uniq:∀ (d:D) {v:V} {L L':List Addr},Own H d v L→Own H d v L'→L=L'
 | .non,_,_,_,h,h'=>by unfold Own at h h';rw [h.2,h'.2]
 | .bl b,_,_,_,h,h'=>by unfold Own at h h';rw [h.2,h'.2]
 | .int i,_,_,_,h,h'=>by unfold Own at h h';rw [h.2,h'.2]
 | .str x,_,_,_,h,h'=>by unfold Own at h h';rw [h.2,h'.2]
 | .lst ds,_,_,_,h,h'=>by
  unfold Own at h h'
  obtain ⟨a,vs,M,e,h1,h2,n,rfl⟩:=h
  obtain ⟨a',vs',M',e',h1',h2',n',rfl⟩:=h'
  rw [e] at e';cases e'
  rw [h1] at h1';cases h1'
  rw [aF.uniq ds h2 h2']
 | .tup ds,_,_,_,h,h'=>by
  unfold Own at h h'
  obtain ⟨a,vs,M,e,h1,h2,n,rfl⟩:=h
  obtain ⟨a',vs',M',e',h1',h2',n',rfl⟩:=h'
  rw [e] at e';cases e'
  rw [h1] at h1';cases h1'
  rw [aF.uniq ds h2 h2']
 | .obj C fs,_,_,_,h,h'=>by
  unfold Own at h h'
  obtain ⟨a,dx,vs,M,e,h1,h3,h2,n,n2,rfl⟩:=h
  obtain ⟨a',dx',vs',M',e',h1',h3',h2',n',n2',rfl⟩:=h'
  rw [e] at e';cases e'
  rw [h1] at h1';cases h1'
  rw [aU.uniq fs h2 h2']
theorem aF.uniq:∀ (ds:List D) {vs:List V} {L L':List Addr},aF H ds vs L→aF H ds vs L'→L=L'
 | [],_,_,_,h,h'=>by unfold aF at h h';rw [h.2,h'.2]
 | d::ds,_,_,_,h,h'=>by
  unfold aF at h h'
  obtain ⟨v,r,M,N,e,h1,h2,n,rfl⟩:=h
  obtain ⟨v',r',M',N',e',h1',h2',n',rfl⟩:=h'
  rw [e] at e';cases e'
  rw [Own.uniq d h1 h1',aF.uniq ds h2 h2']
theorem aU.uniq:∀ (fs:List (Str×D)) {vs:List (Str×V)} {L L':List Addr},aU H fs vs L→aU H fs vs L'→L=L'
  | [],_,_,_,h,h'=>by unfold aU at h h';rw [h.2,h'.2]
  | (f,d)::fs,_,_,_,h,h'=>by
    unfold aU at h h'
    obtain ⟨v,r,M,N,e,h1,h2,n,rfl⟩:=h
    obtain ⟨v',r',M',N',e',h1',h2',n',rfl⟩:=h'
    rw [e] at e';cases e'
    rw [Own.uniq d h1 h1',aU.uniq fs h2 h2']
end
theorem Own.mono (k:aH H H') {d:D} {v:V} {L:List Addr} (h:Own H d v L):Own H' d v L:=h.agree d fun a ha=>by
 obtain ⟨o,ho⟩:=Own.cell d h a ha
 rw [ho,k _ _ ho]
theorem aF.mono (k:aH H H') {d:List D} {v:List V} {L:List Addr} (h:aF H d v L):aF H' d v L:=h.agree d fun a ha=>by
 obtain ⟨o,ho⟩:=aF.cell d h a ha
 rw [ho,k _ _ ho]
theorem aU.mono (k:aH H H') {d:List (Str×D)} {v:List (Str×V)} {L:List Addr} (h:aU H d v L):aU H' d v L:=h.agree d fun a ha=>by
 obtain ⟨o,ho⟩:=aU.cell d h a ha
 rw [ho,k _ _ ho]
end
inductive R where
 | sh (d:D)
 | fr (ds:List D)
 | bw (ds:List D)
def R.view:R→D
 | .sh d=>d
 | .fr ds=>.lst ds
 | .bw ds=>.lst ds
inductive E where
 | sh (d:D)
 | ow (ds:List D)
 | ob (a C:Addr) (fs:List (Str×D))
 | nw (d:D)
 | on (a:Addr) (d:D)
 | scr (K:PySem.W.Frag) (ns:List Int)
abbrev DSt:=List (Option E)
structure Wd (H Hs Hs' H':Hp):Prop where
 keep:aH H H'
 sub:aH Hs' H'
 base:aH Hs Hs'
 new:∀ a o,Hs' a=some o→Hs a=some o∨H a=none
theorem Wd.refl {H Hs:Hp} (s:aH Hs H):Wd H Hs Hs H:=⟨.refl _,s,.refl _,fun _ _ e=>.inl e⟩
theorem Wd.trans {H Hs H1s H1 H2s H2:Hp} (a:Wd H Hs H1s H1) (b:Wd H1 H1s H2s H2):Wd H Hs H2s H2:=
 ⟨a.keep.trans b.keep,b.sub,a.base.trans b.base,fun c o e=>by
  rcases b.new c o e with q | q
  ·
   exact a.new c o q
  ·
   exact .inr (a.keep.free q)⟩
theorem Wd.stay {H Hs Hs' H':Hp} (w:Wd H Hs Hs' H') {a:Addr} {o:HO} (h:H a=some o) (n:Hs a=none):Hs' a=none:=by
 cases e:Hs' a with
 | none=>rfl
 | some u=>
  rcases w.new a u e with q | q
  ·
   rw [n] at q;cases q
  ·
   rw [h] at q;cases q
theorem Wd.lay {H Hs:Hp} (s:aH Hs H) {p:Addr} {o:HO} (n:H p=none):Wd H Hs (upd Hs p o) (upd H p o):=
 ⟨.new n,s.updS,.new (s.free n),fun a u e=>by
  by_cases ha:a=p
  ·
   subst ha;exact .inr n
  ·
   rw [aA ha] at e;exact .inl e⟩
theorem Wd.fresh {H Hs:Hp} (s:aH Hs H) {p:Addr} {o:HO} (n:H p=none):Wd H Hs Hs (upd H p o):=
 ⟨.new n,s.trans (.new n),.refl _,fun _ _ e=>.inl e⟩
def cV (H0 Hs H:Hp):R→V→Prop
 | .sh d,v=>Rep Hs d v
 | .fr ds,v=>∃ a vs,v=.ref a∧H0 a=none∧Hs a=none∧H a=some (.lst vs)∧ay Hs ds vs
 | .bw ds,v=>∃ a vs,v=.ref a∧H a=some (.lst vs)∧ay Hs ds vs
def View (Hs H:Hp) (d:D) (v:V):Prop:=Rep Hs d v∨∃ ds a vs,d=.lst ds∧v=.ref a∧H a=some (.lst vs)∧ay Hs ds vs
theorem gt {K:PySem.W.Frag} {H H':Hp} {a:Addr} {xs:List V} (s:aH H H') (h:SqL K H a xs):SqL K H' a xs:=by
 rcases h with (h | ⟨o,h⟩) | h
 ·
  exact .inl (.inl (s _ _ h))
 ·
  exact .inl (.inr ⟨o,s _ _ h⟩)
 ·
  exact .inr h
def fk (Hs H:Hp):E→V→Prop
 | .sh d,v=>Rep Hs d v
 | .ow ds,v=>∃ a vs,v=.ref a∧Hs a=none∧H a=some (.lst vs)∧ay Hs ds vs
 | .ob a C fs,v=>v=.ref a∧∃ dx fvs,Hs a=none∧Hs dx=none∧H a=some (.ins C dx fvs)∧H dx=some (.own a)∧dr Hs fs fvs
 | .nw d,v=>∃ L,Own H d v L∧∀ a∈L,Hs a=none
 | .on b d,v=>v=.ref b∧∃ L,Own H d v L∧∀ a∈L,Hs a=none
 | .scr K ns,v=>∃ a,v=.ref a∧SqL K Hs a (ns.map V.int)
def eZ (Hs H:Hp) (δ:DSt) (σ:St):Prop:=∀ (i:Nat) (e:E),δ[i]?=some (some e)→∃ v,σ[i]?=some (some v)∧fk Hs H e v
section
variable {H0 H Hs Hs' H':Hp}
theorem cV.mono (w:Wd H Hs Hs' H') {r:R} {v:V} (h:cV H0 Hs H r v):cV H0 Hs' H' r v:=by
 cases r with
 | sh d=>exact Rep.mono w.base d h
 | fr ds=>
  obtain ⟨a,vs,e,n,m,h1,h2⟩:=h
  exact ⟨a,vs,e,n,w.stay h1 m,w.keep _ _ h1,ay.mono w.base ds h2⟩
 | bw ds=>
  obtain ⟨a,vs,e,h1,h2⟩:=h
  exact ⟨a,vs,e,w.keep _ _ h1,ay.mono w.base ds h2⟩
theorem cV.older {H1:Hp} (k:aH H0 H1) {r:R} {v:V} (h:cV H1 Hs H r v):cV H0 Hs H r v:=by
 cases r with
 | sh d=>exact h
 | fr ds=>
  obtain ⟨a,vs,e,n,m,h1,h2⟩:=h
  exact ⟨a,vs,e,k.free n,m,h1,h2⟩
 | bw ds=>exact h
theorem cV.view {r:R} {v:V} (h:cV H0 Hs H r v):View Hs H r.view v:=by
 cases r with
 | sh d=>exact .inl h
 | fr ds=>
  obtain ⟨a,vs,e,n,m,h1,h2⟩:=h
  exact .inr ⟨ds,a,vs,rfl,e,h1,h2⟩
 | bw ds=>
  obtain ⟨a,vs,e,h1,h2⟩:=h
  exact .inr ⟨ds,a,vs,rfl,e,h1,h2⟩
theorem View.lst (s:aH Hs H) {ds:List D} {v:V} (h:View Hs H (.lst ds) v):∃ a vs,v=.ref a∧H a=some (.lst vs)∧ay Hs ds vs:=by
 rcases h with h | ⟨ds',a,vs,e,e2,h1,h2⟩
 ·
  unfold Rep at h
  obtain ⟨a,vs,e,h1,h2⟩:=h
  exact ⟨a,vs,e,s _ _ h1,h2⟩
 ·
  cases e
  exact ⟨a,vs,e2,h1,h2⟩
theorem View.tup (s:aH Hs H) {ds:List D} {v:V} (h:View Hs H (.tup ds) v):∃ a vs,v=.ref a∧H a=some (.tup vs)∧ay Hs ds vs:=by
 rcases h with h | ⟨ds',a,vs,e,e2,h1,h2⟩
 ·
  unfold Rep at h
  obtain ⟨a,vs,e,h1,h2⟩:=h
  exact ⟨a,vs,e,s _ _ h1,h2⟩
 ·
  cases e
theorem View.obj (s:aH Hs H) {C:Addr} {fs:List (Str×D)} {v:V} (h:View Hs H (.obj C fs) v):∃ a dx fvs,v=.ref a∧H a=some (.ins C dx fvs)∧dr Hs fs fvs:=by
 rcases h with h | ⟨ds',a,vs,e,e2,h1,h2⟩
 ·
  unfold Rep at h
  obtain ⟨a,dx,vs,e,h1,h2⟩:=h
  exact ⟨a,dx,vs,e,s _ _ h1,h2⟩
 ·
  cases e
theorem View.int {i:Int} {v:V} (h:View Hs H (.int i) v):v=.int i:=by
 rcases h with h | ⟨_,_,_,e,_⟩
 ·
  unfold Rep at h;exact h
 ·
  cases e
theorem View.bl {b:Bool} {v:V} (h:View Hs H (.bl b) v):v=.bl b:=by
 rcases h with h | ⟨_,_,_,e,_⟩
 ·
  unfold Rep at h;exact h
 ·
  cases e
theorem View.str {x:Str} {v:V} (h:View Hs H (.str x) v):v=.str x:=by
 rcases h with h | ⟨_,_,_,e,_⟩
 ·
  unfold Rep at h;exact h
 ·
  cases e
theorem View.non {v:V} (h:View Hs H .non v):v=.non:=by
 rcases h with h | ⟨_,_,_,e,_⟩
 ·
  unfold Rep at h;exact h
 ·
  cases e
theorem fk.mono (w:Wd H Hs Hs' H') {e:E} {v:V} (h:fk Hs H e v):fk Hs' H' e v:=by
 cases e with
 | sh d=>exact Rep.mono w.base d h
 | ow ds=>
  obtain ⟨a,vs,e,m,h1,h2⟩:=h
  exact ⟨a,vs,e,w.stay h1 m,w.keep _ _ h1,ay.mono w.base ds h2⟩
 | ob a C fs=>
  obtain ⟨e,dx,fvs,m,m2,h1,h3,h2⟩:=h
  exact ⟨e,dx,fvs,w.stay h1 m,w.stay h3 m2,w.keep _ _ h1,w.keep _ _ h3,dr.mono w.base fs h2⟩
 | nw d=>
  obtain ⟨L,h1,h2⟩:=h
  exact ⟨L,h1.mono w.keep,fun a ha=>by
   obtain ⟨o,ho⟩:=Own.cell d h1 a ha
   exact w.stay ho (h2 a ha)⟩
 | on b d=>
  obtain ⟨e,L,h1,h2⟩:=h
  exact ⟨e,L,h1.mono w.keep,fun a ha=>by
   obtain ⟨o,ho⟩:=Own.cell d h1 a ha
   exact w.stay ho (h2 a ha)⟩
 | scr K ns=>
  obtain ⟨a,e,h1⟩:=h
  exact ⟨a,e,gt w.base h1⟩
theorem eZ.mono (w:Wd H Hs Hs' H') {δ:DSt} {σ:St} (h:eZ Hs H δ σ):eZ Hs' H' δ σ:=fun i e q=>by
 obtain ⟨v,h1,h2⟩:=h i e q
 exact ⟨v,h1,h2.mono w⟩
theorem cV.freeze (s:aH Hs H) {r:R} {v:V} (hb:∀ ds,r≠.bw ds) (h:cV H0 Hs H r v):∃ Hs1,Rep Hs1 r.view v∧aH Hs1 H∧aH Hs Hs1∧∀ a o,Hs1 a=some o→Hs a=some o∨H0 a=none:=by
 cases r with
 | sh d=>exact ⟨Hs,h,s,.refl _,fun _ _ e=>.inl e⟩
 | fr ds=>
  obtain ⟨a,vs,e,n,m,h1,h2⟩:=h
  refine ⟨L2.upd Hs a (.lst vs),?_,fun b o q=>?_,.new m,fun b o q=>?_⟩
  ·
   show Rep _ (.lst ds) v
   unfold Rep
   exact ⟨a,vs,e,ax,ay.mono (.new m) ds h2⟩
  ·
   by_cases hb:b=a
   ·
    subst hb;rw [ax] at q;cases q;exact h1
   ·
    rw [aA hb] at q;exact s _ _ q
  ·
   by_cases hb:b=a
   ·
    subst hb;exact .inr n
   ·
    rw [aA hb] at q;exact .inl q
 | bw ds=>exact absurd rfl (hb ds)
theorem cV.share {H0:Hp} (w:Wd H0 Hs Hs' H') {r:R} {v:V} (hb:∀ ds,r≠.bw ds) (h:cV H0 Hs' H' r v):∃ Hs1,Rep Hs1 r.view v∧Wd H0 Hs Hs1 H':=by
 obtain ⟨Hs1,h1,h2,h3,h4⟩:=h.freeze w.sub hb
 exact ⟨Hs1,h1,w.keep,h2,w.base.trans h3,fun a o e=>by
  rcases h4 a o e with q | q
  ·
   exact w.new a o q
  ·
   exact .inr q⟩
end
abbrev FE:=DSt→Option R
def tD (f:FE):TE:=fun σ H Q=>∃ Hs δ r,aH Hs H∧eZ Hs H δ σ∧f δ=some r∧∀ v Hs' H',Wd H Hs Hs' H'→cV H Hs' H' r v→Q v H'
structure DE (X:Cx) (e:Expr) (f:FE):Prop where
 go:PE X e (tD f)
def tDT (f:DSt→Option Bool):TT:=fun σ H Q=>∃ Hs δ b,aH Hs H∧eZ Hs H δ σ∧f δ=some b∧∀ Hs' H',Wd H Hs Hs' H'→Q b H'
structure DT (X:Cx) (e:Expr) (f:DSt→Option Bool):Prop where
 go:PT X e (tDT f)
structure DW (X:Cx) (e:Expr) (f:DSt→Option Bool):Prop where
 go:PW X e (tDT f)
def dh (H0 Hs H:Hp):List R→List V→Prop
 | [],vs=>vs=[]
 | r::rs,vs=>∃ v t,vs=v::t∧cV H0 Hs H r v∧dh H0 Hs H rs t
def tDA (f:DSt→Option (List R)):TA:=fun σ H Q=>∃ Hs δ rs,aH Hs H∧eZ Hs H δ σ∧f δ=some rs∧∀ vs Hs' H',Wd H Hs Hs' H'→dh H Hs' H' rs vs→Q vs H'
structure DA (X:Cx) (es:List Expr) (f:DSt→Option (List R)):Prop where
 go:PA X es (tDA f)
def aa (i:Nat):FE:=fun δ=>match δ[i]? with
 | some (some (.sh d))=>some (.sh d)
 | some (some (.ow ds))=>some (.bw ds)
 | _=>none
def ac (d:D):FE:=fun _=>some (.sh d)
def ad (o:D→D→Option R) (fa fb:FE):FE:=fun δ=>(fa δ).bind fun a=>(fb δ).bind fun b=>o a.view b.view
def dun (o:D→Option R) (fa:FE):FE:=fun δ=>(fa δ).bind fun a=>o a.view
section
variable {X:Cx} {a b c e:Expr} {fa fb fc f:FE} {pos:Pos}
theorem de_var {i:Nat} {x:Str} (h:PE X (.Name x pos) (tVar i)):DE X (.Name x pos) (aa i):=.mk <| h.weak fun σ H Q ⟨Hs,δ,r,S,En,e,K⟩=>by
 unfold aa at e
 cases q:δ[i]? with
 | none=>rw [q] at e;cases e
 | some o=>
  cases o with
  | none=>rw [q] at e;cases e
  | some en=>
   rw [q] at e
   obtain ⟨v,hv,hr⟩:=En i en q
   refine ⟨v,hv,K v Hs H (.refl S) ?_⟩
   cases en with
   | sh d=>cases e;exact hr
   | ow ds=>
    cases e
    obtain ⟨a,vs,e1,_,h1,h2⟩:=hr
    exact ⟨a,vs,e1,h1,h2⟩
   | ob a C fs=>cases e
   | nw d=>cases e
   | on b d=>cases e
   | scr K ns=>cases e
theorem lC {d:D} {v:V} (h:PE X e (tC v)) (r:∀ H,Rep H d v):DE X e (ac d):=.mk <| h.weak fun σ H Q ⟨Hs,δ,r',S,En,e,K⟩=>by
 cases e
 exact K v Hs H (.refl S) (r Hs)
def rD (o:D→D→Option R):R2:=fun x y H Q=>∃ Hs d1 d2 r,aH Hs H∧View Hs H d1 x∧View Hs H d2 y∧o d1 d2=some r∧∀ v Hs' H',Wd H Hs Hs' H'→cV H Hs' H' r v→Q v H'
def rD1 (o:D→Option R):V→Hp→VK→Prop:=fun x H Q=>∃ Hs d r,aH Hs H∧View Hs H d x∧o d=some r∧∀ v Hs' H',Wd H Hs Hs' H'→cV H Hs' H' r v→Q v H'
theorem lD {o:D→D→Option R} {σ:St} {H:Hp} {Q:VK} (h:tD (ad o fa fb) σ H Q):tOp (rD o) (tD fa) (tD fb) σ H Q:=by
 obtain ⟨Hs,δ,r,S,En,e,K⟩:=h
 unfold ad at e
 cases ea:fa δ with
 | none=>rw [ea] at e;cases e
 | some ra=>
  cases eb:fb δ with
  | none=>rw [ea,eb] at e;cases e
  | some rb=>
   rw [ea,eb] at e
   refine ⟨Hs,δ,ra,S,En,ea,fun x Hs1 H1 W1 R1=>⟨Hs1,δ,rb,W1.sub,En.mono W1,eb,fun y Hs2 H2 W2 R2=>?_⟩⟩
   refine ⟨Hs2,ra.view,rb.view,r,W2.sub,(R1.mono W2).view,R2.view,e,fun v Hs3 H3 W3 R3=>?_⟩
   exact K v Hs3 H3 (W1.trans (W2.trans W3)) (R3.older (W1.keep.trans W2.keep))
theorem aV {op:Operator} {o:D→D→Option R} (ho:OpR X (binaryOp op) (rD o)) (ha:DE X a fa) (hb:DE X b fb):DE X (.BinOp a op b pos) (ad o fa fb):=.mk <| (pe_op ho ha.go hb.go).weak fun _ _ _=>lD
theorem de_cmp {op:CmpOp} {o:D→D→Option R} (ho:OpR X (compareOp op) (rD o)) (ha:DE X a fa) (hb:DE X b fb) (hm:behindInMarks op b=false):DE X (.Compare a [op] [b] pos) (ad o fa fb):=.mk <| (pe_cmpR ho ha.go hb.go hm).weak fun _ _ _=>lD
theorem de_ix {o:D→D→Option R} (ho:IxR X (rD o)) (ha:DE X a fa) (hb:DE X b fb) (hs:jU b):DE X (.Subscript a b pos) (ad o fa fb):=.mk <| (pe_ix ho ha.go hb.go hs).weak fun _ _ _=>lD
def R.bool:R→Option Bool
 | .sh (.bl b)=>some b
 | _=>none
def aj (f:FE):DSt→Option Bool:=fun δ=>(f δ).bind R.bool
theorem lE {σ:St} {H:Hp} {Q:Bool→Hp→Prop} (h:tDT (aj f) σ H Q):tTest (tD f) σ H Q:=by
 obtain ⟨Hs,δ,b,S,En,e,K⟩:=h
 unfold aj at e
 cases ea:f δ with
 | none=>rw [ea] at e;cases e
 | some ra=>
  rw [ea] at e
  refine ⟨Hs,δ,ra,S,En,ea,fun x Hs1 H1 W1 R1=>?_⟩
  cases ra with
  | sh d=>
   cases d with
   | bl c=>
    cases e
    have R1:Rep Hs1 (.bl b) x:=R1
    unfold Rep at R1
    exact ⟨b,R1,K Hs1 H1 W1⟩
   | _=>cases e
  | _=>cases e
theorem j9 {op:CmpOp} {o:D→D→Option R} (ho:OpR X (compareOp op) (rD o)) (ha:DE X a fa) (hb:DE X b fb) (hm:behindInMarks op b=false):DT X (.Compare a [op] [b] pos) (aj (ad o fa fb)):=.mk <|
 (pt_cmpR ho ha.go hb.go hm).weak fun σ H Q h=>by
  obtain ⟨Hs,δ,r,S,En,e,K⟩:=lE h
  exact lD ⟨Hs,δ,r,S,En,e,K⟩
theorem br (h:DE X e f) (he:∀ whole,isTrue e X.env whole=(do let v ←whole;standAt e.pos;holding [v] (truthy v)):=by intro _;rfl):DT X e (aj f):=.mk <| (pt_val h.go he).weak fun _ _ _=>lE
def dw (o o':D→D→Option R) (fa fb fc:FE):FE:=fun δ=>(fa δ).bind fun a=>(fb δ).bind fun b=>(o a.view b.view).bind fun r=>match r with
 | .sh (.bl true)=>(fc δ).bind fun c=>o' b.view c.view
 | .sh (.bl false)=>some (.sh (.bl false))
 | _=>none
theorem my {o o':D→D→Option R} {σ:St} {H:Hp} {Q:VK} (h:tD (dw o o' fa fb fc) σ H Q):tChain (rD o) (rD o') (tD fa) (tD fb) (tD fc) σ H Q:=by
 obtain ⟨Hs,δ,r,S,En,e,K⟩:=h
 unfold dw at e
 cases ea:fa δ with
 | none=>rw [ea] at e;cases e
 | some ra=>
  cases eb:fb δ with
  | none=>rw [ea,eb] at e;cases e
  | some rb=>
   rw [ea,eb] at e
   replace e:((o ra.view rb.view).bind fun r=>match r with
    | .sh (.bl true)=>(fc δ).bind fun c=>o' rb.view c.view
    | .sh (.bl false)=>some (R.sh (.bl false))
    | _=>none)=some r:=e
   cases eo:o ra.view rb.view with
   | none=>rw [eo] at e;cases e
   | some ro=>
    rw [eo] at e
    refine ⟨Hs,δ,ra,S,En,ea,fun x Hs1 H1 W1 R1=>⟨Hs1,δ,rb,W1.sub,En.mono W1,eb,fun y Hs2 H2 W2 R2=>?_⟩⟩
    refine ⟨Hs2,ra.view,rb.view,ro,W2.sub,(R1.mono W2).view,R2.view,eo,fun v Hs3 H3 W3 R3=>?_⟩
    cases ro with
    | sh d=>
     cases d with
     | bl k=>
      have R3:Rep Hs3 (.bl k) v:=R3
      unfold Rep at R3
      refine ⟨k,R3,?_⟩
      cases k with
      | true=>
       replace e:((fc δ).bind fun c=>o' rb.view c.view)=some r:=e
       cases ec:fc δ with
       | none=>rw [ec] at e;cases e
       | some rc=>
        rw [ec] at e
        rw [if_pos rfl]
        have W12:=W1.trans (W2.trans W3)
        refine ⟨Hs3,δ,rc,W3.sub,En.mono W12,ec,fun z Hs4 H4 W4 R4=>?_⟩
        refine ⟨Hs4,rb.view,rc.view,r,W4.sub,((R2.mono W3).mono W4).view,R4.view,e,fun v Hs5 H5 W5 R5=>?_⟩
        exact K v Hs5 H5 (W12.trans (W4.trans W5)) (R5.older (W12.keep.trans W4.keep))
      | false=>
       cases e
       rw [if_neg Bool.false_ne_true]
       exact K _ Hs3 H3 (W1.trans (W2.trans W3)) (by show Rep Hs3 (.bl false) _;unfold Rep;rfl)
     | _=>cases e
    | _=>cases e
theorem de_chain {op op':CmpOp} {o o':D→D→Option R} (ho:OpR X (compareOp op) (rD o)) (ho':OpR X (compareOp op') (rD o')) (ha:DE X a fa) (hb:DE X b fb) (hc:DE X c fc)
 (hm:lastMarks [op,op'] [b,c]=false:=by with_unfolding_all rfl):DE X (.Compare a [op,op'] [b,c] pos) (dw o o' fa fb fc):=.mk <| (pe_chain ho ho' ha.go hb.go hc.go hm).weak fun _ _ _=>my
theorem kc {op op':CmpOp} {o o':D→D→Option R} (ho:OpR X (compareOp op) (rD o)) (ho':OpR X (compareOp op') (rD o')) (ha:DE X a fa) (hb:DE X b fb) (hc:DE X c fc)
  (hm:lastMarks [op,op'] [b,c]=false:=by with_unfolding_all rfl):DT X (.Compare a [op,op'] [b,c] pos) (aj (dw o o' fa fb fc)):=.mk <|
 (pt_chain ho ho' ha.go hb.go hc.go hm).weak fun σ H Q h=>by
  obtain ⟨Hs,δ,r,S,En,e,K⟩:=lE h
  exact my ⟨Hs,δ,r,S,En,e,K⟩
def dI (f g:DSt→Option Bool):DSt→Option Bool:=fun δ=>(f δ).bind fun c=>if c=true then g δ else some false
def bo (f g:DSt→Option Bool):DSt→Option Bool:=fun δ=>(f δ).bind fun c=>if c=true then some true else g δ
def bf (f:DSt→Option Bool):DSt→Option Bool:=fun δ=>(f δ).map (!·)
variable {tf tg:DSt→Option Bool} {rest:List Expr}
theorem dw_and1 (ha:DT X a tf):DW X (.BoolOp .And [a] pos) tf:=.mk <| pw_and1 ha.go
theorem lF (ha:DT X a tf):DW X (.BoolOp .Or [a] pos) tf:=.mk <| pw_or1 ha.go
theorem dw_and (ha:DT X a tf) (hb:DW X (.BoolOp .And (b::rest) pos) tg):DW X (.BoolOp .And (a::b::rest) pos) (dI tf tg):=.mk <| (pw_and ha.go hb.go).weak fun σ H Q h=>by
 obtain ⟨Hs,δ,r,S,En,e,K⟩:=h
 unfold dI at e
 cases ea:tf δ with
 | none=>rw [ea] at e;cases e
 | some k=>
  rw [ea] at e
  refine ⟨Hs,δ,k,S,En,ea,fun Hs1 H1 W1=>?_⟩
  cases k with
  | true=>
   rw [if_pos rfl]
   exact ⟨Hs1,δ,r,W1.sub,En.mono W1,e,fun Hs2 H2 W2=>K Hs2 H2 (W1.trans W2)⟩
  | false=>cases e;rw [if_neg Bool.false_ne_true];exact K Hs1 H1 W1
theorem gU (ha:DT X a tf) (hb:DW X (.BoolOp .Or (b::rest) pos) tg):DW X (.BoolOp .Or (a::b::rest) pos) (bo tf tg):=.mk <| (pw_or ha.go hb.go).weak fun σ H Q h=>by
 obtain ⟨Hs,δ,r,S,En,e,K⟩:=h
 unfold bo at e
 cases ea:tf δ with
 | none=>rw [ea] at e;cases e
 | some k=>
  rw [ea] at e
  refine ⟨Hs,δ,k,S,En,ea,fun Hs1 H1 W1=>?_⟩
  cases k with
  | true=>cases e;rw [if_pos rfl];exact K Hs1 H1 W1
  | false=>
   rw [if_neg Bool.false_ne_true]
   exact ⟨Hs1,δ,r,W1.sub,En.mono W1,e,fun Hs2 H2 W2=>K Hs2 H2 (W1.trans W2)⟩
theorem DW.dt (h:DW X e tf):DT X e tf:=.mk <| PW.pt h.go
theorem bK (ha:DT X a tf):DT X (.UnaryOp .Not a pos) (bf tf):=.mk <| (pt_not ha.go).weak fun σ H Q h=>by
 obtain ⟨Hs,δ,r,S,En,e,K⟩:=h
 unfold bf at e
 cases ea:tf δ with
 | none=>rw [ea] at e;cases e
 | some k=>
  rw [ea] at e
  cases e
  exact ⟨Hs,δ,k,S,En,ea,fun Hs1 H1 W1=>K Hs1 H1 W1⟩
def jL (fa fb:FE):FE:=fun δ=>(fa δ).bind fun r=>match r with
 | .sh (.bl true)=>fb δ
 | .sh (.bl false)=>some (.sh (.bl false))
 | _=>none
def dor (fa fb:FE):FE:=fun δ=>(fa δ).bind fun r=>match r with
 | .sh (.bl true)=>some (.sh (.bl true))
 | .sh (.bl false)=>fb δ
 | _=>none
def dnot (fa:FE):FE:=fun δ=>(fa δ).bind fun r=>match r with
 | .sh (.bl b)=>some (.sh (.bl (!b)))
 | _=>none
theorem shB (H0 Hs H:Hp) (b:Bool):cV H0 Hs H (.sh (.bl b)) (.bl b):=by show Rep Hs (.bl b) (.bl b);unfold Rep;rfl
theorem shI (H0 Hs H:Hp) (i:Int):cV H0 Hs H (.sh (.int i)) (.int i):=by show Rep Hs (.int i) (.int i);unfold Rep;rfl
theorem shS (H0 Hs H:Hp) (x:Str):cV H0 Hs H (.sh (.str x)) (.str x):=by show Rep Hs (.str x) (.str x);unfold Rep;rfl
theorem unB {H0 Hs H:Hp} {b:Bool} {v:V} (h:cV H0 Hs H (.sh (.bl b)) v):v=.bl b:=by have h:Rep Hs (.bl b) v:=h;unfold Rep at h;exact h
theorem hJ {op} (h:DE X a fa):DE X (.BoolOp op [a] pos) fa:=.mk <| pe_one h.go
theorem fH (ha:DE X a fa) (hb:DE X (.BoolOp .And (b::rest) pos) fb):DE X (.BoolOp .And (a::b::rest) pos) (jL fa fb):=.mk <| (pe_and ha.go hb.go).weak fun σ H Q h=>by
 obtain ⟨Hs,δ,r,S,En,e,K⟩:=h
 unfold jL at e
 cases ea:fa δ with
 | none=>rw [ea] at e;cases e
 | some k=>
  rw [ea] at e
  refine ⟨Hs,δ,k,S,En,ea,fun x Hs1 H1 W1 R1=>?_⟩
  match k,e,R1 with
  | .sh (.bl true),e,R1=>
   refine ⟨true,unB R1,?_⟩
   rw [if_pos rfl]
   exact ⟨Hs1,δ,r,W1.sub,En.mono W1,e,fun v Hs2 H2 W2 R2=>K v Hs2 H2 (W1.trans W2) (R2.older W1.keep)⟩
  | .sh (.bl false),e,R1=>
   cases e
   refine ⟨false,unB R1,?_⟩
   rw [if_neg Bool.false_ne_true]
   exact K _ Hs1 H1 W1 (shB _ _ _ _)
theorem de_or (ha:DE X a fa) (hb:DE X (.BoolOp .Or (b::rest) pos) fb):DE X (.BoolOp .Or (a::b::rest) pos) (dor fa fb):=.mk <| (pe_or ha.go hb.go).weak fun σ H Q h=>by
 obtain ⟨Hs,δ,r,S,En,e,K⟩:=h
 unfold dor at e
 cases ea:fa δ with
 | none=>rw [ea] at e;cases e
 | some k=>
  rw [ea] at e
  refine ⟨Hs,δ,k,S,En,ea,fun x Hs1 H1 W1 R1=>?_⟩
  match k,e,R1 with
  | .sh (.bl true),e,R1=>
   cases e
   refine ⟨true,unB R1,?_⟩
   rw [if_pos rfl]
   exact K _ Hs1 H1 W1 (shB _ _ _ _)
  | .sh (.bl false),e,R1=>
   refine ⟨false,unB R1,?_⟩
   rw [if_neg Bool.false_ne_true]
   exact ⟨Hs1,δ,r,W1.sub,En.mono W1,e,fun v Hs2 H2 W2 R2=>K v Hs2 H2 (W1.trans W2) (R2.older W1.keep)⟩
theorem de_not (ha:DE X a fa):DE X (.UnaryOp .Not a pos) (dnot fa):=.mk <| (pe_not ha.go).weak fun σ H Q h=>by
 obtain ⟨Hs,δ,r,S,En,e,K⟩:=h
 unfold dnot at e
 cases ea:fa δ with
 | none=>rw [ea] at e;cases e
 | some k=>
  rw [ea] at e
  refine ⟨Hs,δ,k,S,En,ea,fun x Hs1 H1 W1 R1=>?_⟩
  match k,e,R1 with
  | .sh (.bl k),e,R1=>
   cases e
   exact ⟨k,unB R1,K _ Hs1 H1 W1 (shB _ _ _ _)⟩
def dif (t:DSt→Option Bool) (fa fb:FE):FE:=fun δ=>(t δ).bind fun k=>if k=true then fa δ else fb δ
theorem de_ifExp {c:Expr} (hc:DT X c tf) (ha:DE X a fa) (hb:DE X b fb):DE X (.IfExp c a b pos) (dif tf fa fb):=.mk <| (mq hc.go ha.go hb.go).weak fun σ H Q h=>by
 obtain ⟨Hs,δ,r,S,En,e,K⟩:=h
 unfold dif at e
 cases ea:tf δ with
 | none=>rw [ea] at e;cases e
 | some k=>
  rw [ea] at e
  refine ⟨Hs,δ,k,S,En,ea,fun Hs1 H1 W1=>?_⟩
  cases k with
  | true=>
   rw [if_pos rfl]
   exact ⟨Hs1,δ,r,W1.sub,En.mono W1,e,fun v Hs2 H2 W2 R2=>K v Hs2 H2 (W1.trans W2) (R2.older W1.keep)⟩
  | false=>
   rw [if_neg Bool.false_ne_true]
   exact ⟨Hs1,δ,r,W1.sub,En.mono W1,e,fun v Hs2 H2 W2 R2=>K v Hs2 H2 (W1.trans W2) (R2.older W1.keep)⟩
end
end Ew
end
section
set_option Elab.async false
set_option linter.all false
set_option maxRecDepth 100000
namespace Ew
open PySem PySem.Spec L2
def big:Nat:=100000
theorem bP {n:Nat} (h:n≤big):n<sizeLine:=Nat.lt_of_le_of_lt h (by rw [PySem.sizeLine_eq];decide)
def noStar:Expr→Bool
 | .Starred _ _=>false
 | _=>true
theorem bx {e:Expr} (h:noStar e=true) {es:List Expr} {env:Env}:starEach (e::es) env=(false,eval e env)::starEach es env:=by
 cases e <;> first | rfl | cases h
def ah:DSt→Option (List R):=fun _=>some []
def ab (fa:FE) (fr:DSt→Option (List R)):DSt→Option (List R):=fun δ=>(fa δ).bind fun r=>(fr δ).bind fun rs=>some (r::rs)
theorem dh.mono {H0 H Hs Hs' H':Hp} (w:Wd H Hs Hs' H'):∀ {rs:List R} {vs:List V},dh H0 Hs H rs vs→dh H0 Hs' H' rs vs
 | [],_,h=>h
 | r::rs,_,⟨v,t,e,h1,h2⟩=>⟨v,t,e,h1.mono w,dh.mono w h2⟩
theorem dh.older {H0 H1 H Hs:Hp} (k:aH H0 H1):∀ {rs:List R} {vs:List V},dh H1 Hs H rs vs→dh H0 Hs H rs vs
 | [],_,h=>h
 | r::rs,_,⟨v,t,e,h1,h2⟩=>⟨v,t,e,h1.older k,dh.older k h2⟩
section
variable {X:Cx} {e:Expr} {es:List Expr} {fa:FE} {fr:DSt→Option (List R)} {pos:Pos}
theorem i7:DA X [] ah:=.mk <| dY.weak fun σ H Q ⟨Hs,δ,r,S,En,e,K⟩=>by
 cases e
 exact K [] Hs H (.refl S) rfl
theorem ae (ha:DE X e fa) (hr:DA X es fr) (hs:starEach (e::es) X.env=(false,eval e X.env)::starEach es X.env:=by exact bx rfl):DA X (e::es) (ab fa fr):=
 .mk <| (bZ ha.go hr.go hs).weak fun σ H Q ⟨Hs,δ,r,S,En,e,K⟩=>by
  unfold ab at e
  cases ea:fa δ with
  | none=>rw [ea] at e;cases e
  | some ra=>
   cases eb:fr δ with
   | none=>rw [ea,eb] at e;cases e
   | some rb=>
    rw [ea,eb] at e
    cases e
    refine ⟨Hs,δ,ra,S,En,ea,fun x Hs1 H1 W1 R1=>⟨Hs1,δ,rb,W1.sub,En.mono W1,eb,fun vs Hs2 H2 W2 R2=>?_⟩⟩
    exact K (x::vs) Hs2 H2 (W1.trans W2) ⟨x,vs,rfl,R1.mono W2,R2.older W1.keep⟩
end
def R.isBw:R→Bool
 | .bw _=>true
 | _=>false
theorem dh.freeze {H0 H:Hp}:∀ {rs:List R} {vs:List V} {Hs:Hp},aH Hs H→dh H0 Hs H rs vs→∃ Hs1,ay Hs1 (rs.map R.view) vs∧aH Hs1 H∧aH Hs Hs1∧
  ((∀ r∈rs,r.isBw=false)→∀ a o,Hs1 a=some o→Hs a=some o∨H0 a=none):=by
 have one:∀ {r:R} {v:V} {Hs:Hp},aH Hs H→View Hs H r.view v→(r.isBw=false→(∃ d,r=.sh d∧Rep Hs d v)∨∃ a,v=.ref a∧H0 a=none)→
   ∃ Hs1,Rep Hs1 r.view v∧aH Hs1 H∧aH Hs Hs1∧(r.isBw=false→∀ a o,Hs1 a=some o→Hs a=some o∨H0 a=none):=by
  intro r v Hs S vw new
  rcases vw with h | ⟨ds,a,vs,e1,e2,h1,h2⟩
  ·
   exact ⟨Hs,h,S,.refl _,fun _ _ _ e=>.inl e⟩
  ·
   have sub:aH Hs (L2.upd Hs a (.lst vs)):=fun b o q=>by
    by_cases hb:b=a
    ·
     subst hb;rw [S _ _ q] at h1;cases h1;exact ax
    ·
     rw [aA hb];exact q
   refine ⟨L2.upd Hs a (.lst vs),?_,fun b o q=>?_,sub,fun hb b o q=>?_⟩
   ·
    rw [e1];unfold Rep;exact ⟨a,vs,e2,ax,ay.mono sub ds h2⟩
   ·
    by_cases hb:b=a
    ·
     subst hb;rw [ax] at q;cases q;exact h1
    ·
     rw [aA hb] at q;exact S _ _ q
   ·
    by_cases hba:b=a
    ·
     subst hba
     rcases new hb with ⟨d,ed,hd⟩ | ⟨a',ea,na⟩
     ·
      subst ed
      have e1:d=.lst ds:=e1
      subst e1
      unfold Rep at hd
      obtain ⟨a',vs',e3,h3,_⟩:=hd
      rw [e2] at e3;cases e3
      rw [S _ _ h3] at h1;cases h1
      rw [ax] at q;cases q
      exact .inl h3
     ·
      rw [e2] at ea;cases ea;exact .inr na
    ·
     rw [aA hba] at q;exact .inl q
 intro rs
 induction rs with
 | nil=>intro vs Hs S h;exact ⟨Hs,by rw [show vs=[] from h];exact .nil,S,.refl _,fun _ _ _ e=>.inl e⟩
 | cons r rs ih=>
  intro vs Hs S h
  obtain ⟨v,t,rfl,h1,h2⟩:=h
  obtain ⟨Hs1,q1,q2,q3,q4⟩:=ih S h2
  have vw:View Hs1 H r.view v:=by
   rcases h1.view with z | ⟨ds,a,vs,e1,e2,z1,z2⟩
   ·
    exact .inl (Rep.mono q3 _ z)
   ·
    exact .inr ⟨ds,a,vs,e1,e2,z1,ay.mono q3 _ z2⟩
  obtain ⟨Hs2,p1,p2,p3,p4⟩:=one (r:=r) q2 vw fun hb=>by
   cases r with
   | sh d=>exact .inl ⟨d,rfl,Rep.mono q3 _ h1⟩
   | fr ds=>obtain ⟨a,vs,e,n,_⟩:=h1;exact .inr ⟨a,e,n⟩
   | bw ds=>cases hb
  refine ⟨Hs2,.cons p1 (ay.mono p3 _ q1),p2,q3.trans p3,fun hb a o e=>?_⟩
  rcases p4 (hb r List.mem_cons_self) a o e with z | z
  ·
   exact q4 (fun r' hr'=>hb r' (List.mem_cons_of_mem _ hr')) a o z
  ·
   exact .inr z
def cT (rs:List R):Bool:=rs.all fun r=>!r.isBw
theorem im {rs:List R} (h:cT rs=true):∀ r∈rs,r.isBw=false:=fun r hr=>by
 have:=List.all_eq_true.mp h r hr
 simpa using this
def cE (fa:DSt→Option (List R)):FE:=fun δ=>(fa δ).bind fun rs=>if cT rs=true∧rs.length≤big then some (.fr (rs.map R.view)) else none
def b9 (fa:DSt→Option (List R)):FE:=fun δ=>(fa δ).bind fun rs=>if cT rs=true∧rs.length≤big then some (.sh (.tup (rs.map R.view))) else none
theorem dh.length {H0 Hs H:Hp}:∀ {rs:List R} {vs:List V},dh H0 Hs H rs vs→vs.length=rs.length
 | [],_,h=>by rw [show _=_ from h];rfl
 | r::rs,_,⟨v,t,e,h1,h2⟩=>by rw [e];simp [dh.length h2]
section
variable {X:Cx} {e:Expr} {es:List Expr} {fa:FE} {fr:DSt→Option (List R)} {pos:Pos}
theorem ci (h:DA X es fr):DE X (.List es pos) (cE fr):=.mk <| (pe_lst h.go).weak fun σ H Q ⟨Hs,δ,r,S,En,e,K⟩=>by
 unfold cE at e
 cases ea:fr δ with
 | none=>rw [ea] at e;cases e
 | some rs=>
  rw [ea] at e
  by_cases hc:cT rs=true∧rs.length≤big
  ·
   replace e:(if cT rs=true∧rs.length≤big then some (R.fr (rs.map R.view)) else none)=some r:=e
   rw [if_pos hc] at e
   cases e
   refine ⟨Hs,δ,rs,S,En,ea,fun vs Hs1 H1 W1 R1=>⟨?_,fun p hp=>?_⟩⟩
   ·
    rw [R1.length];exact Nat.le_of_lt (bP hc.2)
   ·
    obtain ⟨Hs2,q1,q2,q3,q4⟩:=R1.freeze W1.sub
    have W2:Wd H Hs Hs2 H1:=⟨W1.keep,q2,W1.base.trans q3,fun a o e=>by
     rcases q4 (im hc.1) a o e with z | z
     ·
      exact W1.new a o z
     ·
      exact .inr z⟩
    exact K _ Hs2 _ (W2.trans (.fresh q2 hp)) ⟨p,vs,rfl,W1.keep.free hp,q2.free hp,ax,q1⟩
  ·
   replace e:(if cT rs=true∧rs.length≤big then some (R.fr (rs.map R.view)) else none)=some r:=e
   rw [if_neg hc] at e;cases e
theorem cW {x1} (h:DA X es fr):DE X (.Tuple es x1 pos) (b9 fr):=.mk <| (pe_tup h.go).weak fun σ H Q ⟨Hs,δ,r,S,En,e,K⟩=>by
 unfold b9 at e
 cases ea:fr δ with
 | none=>rw [ea] at e;cases e
 | some rs=>
  rw [ea] at e
  by_cases hc:cT rs=true∧rs.length≤big
  ·
   replace e:(if cT rs=true∧rs.length≤big then some (R.sh (.tup (rs.map R.view))) else none)=some r:=e
   rw [if_pos hc] at e
   cases e
   refine ⟨Hs,δ,rs,S,En,ea,fun vs Hs1 H1 W1 R1=>⟨?_,fun p hp=>?_⟩⟩
   ·
    rw [R1.length];exact Nat.le_of_lt (bP hc.2)
   ·
    obtain ⟨Hs2,q1,q2,q3,q4⟩:=R1.freeze W1.sub
    have W2:Wd H Hs Hs2 H1:=⟨W1.keep,q2,W1.base.trans q3,fun a o e=>by
     rcases q4 (im hc.1) a o e with z | z
     ·
      exact W1.new a o z
     ·
      exact .inr z⟩
    refine K _ (L2.upd Hs2 p (.tup vs)) _ (W2.trans (.lay q2 hp)) ?_
    show Rep _ (.tup _) _
    unfold Rep
    exact ⟨p,vs,rfl,ax,ay.mono (.new (q2.free hp)) _ q1⟩
  ·
   replace e:(if cT rs=true∧rs.length≤big then some (R.sh (.tup (rs.map R.view))) else none)=some r:=e
   rw [if_neg hc] at e;cases e
end
def spD (n:Nat) (m:List D→Option D):Sp:=fun vs H Q _=>∃ Hs ds d,ds.length=n∧aH Hs H∧ay Hs ds vs∧m ds=some d∧∀ v Hs' H',Wd H Hs Hs' H'→Rep Hs' d v→Q v H'
theorem spD_len {n:Nat} {m:List D→Option D} {vs:List V} {H:Hp} {Q:VK} {E:XK} (h:spD n m vs H Q E):vs.length=n:=by
 obtain ⟨Hs,ds,d,e,_,r,_⟩:=h
 rw [r.length,e]
def D.flat:D→Bool
 | .non=>true
 | .bl _=>true
 | .int _=>true
 | .str _=>true
 | _=>false
theorem Rep.flat {H H':Hp} {d:D} {v:V} (f:d.flat=true) (h:Rep H d v):Rep H' d v:=by
 cases d with
 | lst _=>cases f
 | tup _=>cases f
 | obj _ _=>cases f
 | _=>unfold Rep at h ⊢;exact h
def io (n:Nat) (m:List D→Option D) (rs:List R):Option R:=(m (rs.map R.view)).bind fun d=>if rs.length=n∧(cT rs=true∨d.flat=true) then some (.sh d) else none
def mcallF (n:Nat) (m:List D→Option (List D)) (rs:List R):Option R:=(m (rs.map R.view)).bind fun d=>if rs.length=n∧cT rs=true then some (.fr d) else none
theorem mz {n:Nat} {m:List D→Option D} {rs:List R} {r:R} {vs:List V} {H Hs Hs1 H1:Hp} {Q:VK} {E:XK} (W1:Wd H Hs Hs1 H1) (R1:dh H Hs1 H1 rs vs) (e:io n m rs=some r)
  (K:∀ v Hs' H',Wd H Hs Hs' H'→cV H Hs' H' r v→Q v H'):spD n m vs H1 Q E:=by
 unfold io at e
 cases em:m (rs.map R.view) with
 | none=>rw [em] at e;cases e
 | some d=>
  rw [em] at e
  replace e:(if rs.length=n∧(cT rs=true∨d.flat=true) then some (R.sh d) else none)=some r:=e
  by_cases hc:rs.length=n∧(cT rs=true∨d.flat=true)
  ·
   rw [if_pos hc] at e
   cases e
   obtain ⟨Hs2,q1,q2,q3,q4⟩:=R1.freeze W1.sub
   refine ⟨Hs2,_,d,by rw [List.length_map];exact hc.1,q2,q1,em,fun v Hs3 H3 W3 R3=>?_⟩
   rcases hc.2 with hb | hf
   ·
    have W2:Wd H Hs Hs2 H1:=⟨W1.keep,q2,W1.base.trans q3,fun a o e=>by
     rcases q4 (im hb) a o e with z | z
     ·
      exact W1.new a o z
     ·
      exact .inr z⟩
    exact K v Hs3 H3 (W2.trans W3) R3
   ·
    exact K v Hs1 H3 ⟨W1.keep.trans W3.keep,W1.sub.trans W3.keep,W1.base,W1.new⟩ (Rep.flat hf R3)
  ·
   rw [if_neg hc] at e;cases e
def aq (n:Nat) (m:List D→Option D) (fa:DSt→Option (List R)):FE:=fun δ=>(fa δ).bind (io n m)
def dcallF (n:Nat) (m:List D→Option (List D)) (fa:DSt→Option (List R)):FE:=fun δ=>(fa δ).bind (mcallF n m)
section
variable {X:Cx} {e o:Expr} {es:List Expr} {fa fo:FE} {fr:DSt→Option (List R)} {n:Nat} {m:List D→Option D} {mF:List D→Option (List D)} {E:XK}
theorem tD_call {σ:St} {H:Hp} {Q:VK} (h:tD (aq n m fr) σ H Q):tCall (spD n m) [] E (tDA fr) σ H Q:=by
 obtain ⟨Hs,δ,r,S,En,e,K⟩:=h
 unfold aq at e
 cases ea:fr δ with
 | none=>rw [ea] at e;cases e
 | some rs=>
  rw [ea] at e
  refine ⟨Hs,δ,rs,S,En,ea,fun vs Hs1 H1 W1 R1=>?_⟩
  show spD n m (vs++[]) H1 Q E
  rw [List.append_nil]
  exact mz W1 R1 e K
def bh (ok:Addr→Bool) (f:Str) (fo:FE):FE:=fun δ=>(fo δ).bind fun r=>match r.view with
 | .obj C fs=>if ok C=true then (fs.lookup f).map .sh else none
 | _=>none
theorem de_fld {ok:Addr→Bool} {f:Str} {pos:Pos} (ho:DE X o fo) (hk:∀ C,ok C=true→Cls X.K C∧NoAttr X.K C f) (hb:attributeBase o f X.env (eval o X.env)=eval o X.env:=by rfl):DE X (.Attribute o f pos) (bh ok f fo):=.mk <|
 (pe_fld ho.go hb).weak fun σ H Q ⟨Hs,δ,r,S,En,e,K⟩=>by
  unfold bh at e
  cases ea:fo δ with
  | none=>rw [ea] at e;cases e
  | some ra=>
   rw [ea] at e
   refine ⟨Hs,δ,ra,S,En,ea,fun x Hs1 H1 W1 R1=>?_⟩
   have vw:=R1.view
   replace e:(match ra.view with
    | .obj C fs=>if ok C=true then (fs.lookup f).map R.sh else none
    | _=>none)=some r:=e
   cases hv:ra.view with
   | obj C fs=>
    rw [hv] at e vw
    replace e:(if ok C=true then (fs.lookup f).map R.sh else none)=some r:=e
    by_cases hc:ok C=true
    ·
     rw [if_pos hc] at e
     cases el:fs.lookup f with
     | none=>rw [el] at e;cases e
     | some d=>
      rw [el] at e
      cases e
      obtain ⟨a,dx,fvs,e1,h1,h2⟩:=vw.obj W1.sub
      obtain ⟨v,l1,l2⟩:=h2.lookup el
      exact ⟨a,C,dx,fvs,v,e1,h1,(hk C hc).1,(hk C hc).2,l1,K v Hs1 H1 W1 l2⟩
    ·
     rw [if_neg hc] at e;cases e
   | _=>rw [hv] at e;cases e
def bB (C:Addr) (name:Str) (n:Nat) (m:List D→Option D) (fo:FE) (fa:DSt→Option (List R)):FE:=fun δ=>(fo δ).bind fun r=>match r.view with
 | .obj C' fs=>if C'=C∧fs.lookup name=none then (fa δ).bind fun rs=>io n m (r::rs) else none
 | _=>none
theorem tD_meth {C:Addr} {name:Str} {σ:St} {H:Hp} {Q:VK} (h:tD (bB C name n m fo fr) σ H Q):tMeth C name (spD n m) [] E (tD fo) (tDA fr) σ H Q:=by
 obtain ⟨Hs,δ,r,S,En,e,K⟩:=h
 unfold bB at e
 cases ea:fo δ with
 | none=>rw [ea] at e;cases e
 | some ra=>
  rw [ea] at e
  refine ⟨Hs,δ,ra,S,En,ea,fun x Hs1 H1 W1 R1=>?_⟩
  have vw:=R1.view
  replace e:(match ra.view with
   | .obj C' fs=>if C'=C∧fs.lookup name=none then (fr δ).bind fun rs=>io n m (ra::rs) else none
   | _=>none)=some r:=e
  cases hv:ra.view with
  | obj C' fs=>
   rw [hv] at e vw
   replace e:(if C'=C∧fs.lookup name=none then (fr δ).bind fun rs=>io n m (ra::rs) else none)=some r:=e
   by_cases hc:C'=C∧fs.lookup name=none
   ·
    rw [if_pos hc] at e
    obtain ⟨hC,hn⟩:=hc
    subst hC
    obtain ⟨a,dx,fvs,e1,h1,h2⟩:=vw.obj W1.sub
    refine ⟨a,dx,fvs,e1,h1,h2.none hn,?_⟩
    cases eb:fr δ with
    | none=>rw [eb] at e;cases e
    | some rs=>
     rw [eb] at e
     refine ⟨Hs1,δ,rs,W1.sub,En.mono W1,eb,fun vs Hs2 H2 W2 R2=>?_⟩
     show spD n m (x::(vs++[])) H2 Q E
     rw [List.append_nil]
     exact mz (rs:=ra::rs) (W1.trans W2) (show dh H Hs2 H2 (ra::rs) (x::vs) from ⟨x,vs,rfl,R1.mono W2,R2.older W1.keep⟩) e K
   ·
    rw [if_neg hc] at e;cases e
  | _=>rw [hv] at e;cases e
def eK (f g:FE):FE:=fun δ=>match f δ with
 | some r=>some r
 | none=>g δ
theorem hR {f g:FE} (hf:DE X e f) (hg:DE X e g):DE X e (eK f g):=.mk <| fun pins s σ H Q I ⟨Hs,δ,r,S,En,e,K⟩=>by
 unfold eK at e
 cases ef:f δ with
 | none=>rw [ef] at e;exact hg.go pins s σ H Q I ⟨Hs,δ,r,S,En,e,K⟩
 | some r'=>rw [ef] at e;cases e;exact hf.go pins s σ H Q I ⟨Hs,δ,r,S,En,ef,K⟩
def az (o:D→Option R) (fa:DSt→Option (List R)):FE:=fun δ=>(fa δ).bind fun rs=>match rs with
 | [r]=>o r.view
 | _=>none
def rC1 (o:D→Option R):List V→Hp→VK→Prop:=fun xs H Q=>∃ x,xs=[x]∧rD1 o x H Q
theorem mB {o:D→Option R} {σ:St} {H:Hp} {Q:VK} (h:tD (az o fr) σ H Q):tCB (rC1 o) (tDA fr) σ H Q:=by
 obtain ⟨Hs,δ,r,S,En,e,K⟩:=h
 unfold az at e
 cases ea:fr δ with
 | none=>rw [ea] at e;cases e
 | some rs=>
  rw [ea] at e
  refine ⟨Hs,δ,rs,S,En,ea,fun vs Hs1 H1 W1 R1=>?_⟩
  match rs,e,R1 with
  | [r1],e,⟨v,t,ev,q1,q2⟩=>
   have q2:t=[]:=q2
   subst q2
   exact ⟨v,ev,Hs1,r1.view,r,W1.sub,q1.view,e,fun u Hs2 H2 W2 R2=>K u Hs2 H2 (W1.trans W2) (R2.older W1.keep)⟩
def bu (o:D→D→Option R) (fa:DSt→Option (List R)):FE:=fun δ=>(fa δ).bind fun rs=>match rs with
 | [r,s]=>o r.view s.view
 | _=>none
def rC2 (o:D→D→Option R):List V→Hp→VK→Prop:=fun xs H Q=>∃ x y,xs=[x,y]∧rD o x y H Q
theorem tD_call2 {o:D→D→Option R} {σ:St} {H:Hp} {Q:VK} (h:tD (bu o fr) σ H Q):tCB (rC2 o) (tDA fr) σ H Q:=by
 obtain ⟨Hs,δ,r,S,En,e,K⟩:=h
 unfold bu at e
 cases ea:fr δ with
 | none=>rw [ea] at e;cases e
 | some rs=>
  rw [ea] at e
  refine ⟨Hs,δ,rs,S,En,ea,fun vs Hs1 H1 W1 R1=>?_⟩
  match rs,e,R1 with
  | [r1,r2],e,⟨v,t,ev,q1,⟨v2,t2,ev2,p1,p2⟩⟩=>
   have p2:t2=[]:=p2
   subst p2
   exact ⟨v,v2,by rw [ev,ev2],Hs1,r1.view,r2.view,r,W1.sub,q1.view,p1.view,e,fun u Hs2 H2 W2 R2=>K u Hs2 H2 (W1.trans W2) (R2.older W1.keep)⟩
end
end Ew
end
section
set_option Elab.async false
set_option linter.all false
set_option maxRecDepth 100000
namespace Ew
open PySem PySem.Spec L2
def Fp (H:Hp):E→V→Addr→Prop
 | .sh _,_,_=>False
 | .ow _,v,b=>v=.ref b
 | .ob a C _,_,b=>b=a∨∃ fvs,H a=some (.ins C b fvs)
 | .nw d,v,b=>∃ L,Own H d v L∧b∈L
 | .on _ d,v,b=>∃ L,Own H d v L∧b∈L
 | .scr _ _,_,_=>False
theorem fk.fp {Hs H:Hp} {e:E} {v:V} {b:Addr} (h:fk Hs H e v) (f:Fp H e v b):Hs b=none∧∃ o,H b=some o:=by
 cases e with
 | sh d=>cases f
 | ow ds=>
  obtain ⟨a,vs,e1,m,h1,h2⟩:=h
  rw [e1] at f;cases f
  exact ⟨m,_,h1⟩
 | ob a C fs=>
  obtain ⟨e1,dx,fvs,m,m2,h1,h3,h2⟩:=h
  rcases f with rfl | ⟨fvs',f⟩
  ·
   exact ⟨m,_,h1⟩
  ·
   rw [h1] at f;cases f
   exact ⟨m2,_,h3⟩
 | nw d=>
  obtain ⟨L,h1,h2⟩:=h
  obtain ⟨L',h3,hb⟩:=f
  rw [Own.uniq d h3 h1] at hb
  exact ⟨h2 b hb,Own.cell d h1 b hb⟩
 | on a d=>
  obtain ⟨_,L,h1,h2⟩:=h
  obtain ⟨L',h3,hb⟩:=f
  rw [Own.uniq d h3 h1] at hb
  exact ⟨h2 b hb,Own.cell d h1 b hb⟩
 | scr K ns=>cases f
theorem fk.agree {Hs H H':Hp} {e:E} {v:V} (h:fk Hs H e v) (k:∀ b,Fp H e v b→H' b=H b):fk Hs H' e v∧∀ b,Fp H' e v b→Fp H e v b:=by
 cases e with
 | sh d=>exact ⟨h,fun b f=>f⟩
 | ow ds=>
  obtain ⟨a,vs,e1,m,h1,h2⟩:=h
  exact ⟨⟨a,vs,e1,m,by rw [k a e1];exact h1,h2⟩,fun b f=>f⟩
 | ob a C fs=>
  obtain ⟨e1,dx,fvs,m,m2,h1,h3,h2⟩:=h
  have ka:=k a (.inl rfl)
  exact ⟨⟨e1,dx,fvs,m,m2,by rw [ka];exact h1,by rw [k dx (.inr ⟨fvs,h1⟩)];exact h3,h2⟩,fun b f=>by
   rcases f with f | ⟨fvs',f⟩
   ·
    exact .inl f
   ·
    rw [ka] at f;exact .inr ⟨fvs',f⟩⟩
 | nw d=>
  obtain ⟨L,h1,h2⟩:=h
  have h1':Own H' d v L:=h1.agree d fun b hb=>k b ⟨L,h1,hb⟩
  exact ⟨⟨L,h1',h2⟩,fun b ⟨L',f,hb⟩=>⟨L,h1,by rw [Own.uniq d f h1'] at hb;exact hb⟩⟩
 | on a d=>
  obtain ⟨e1,L,h1,h2⟩:=h
  have h1':Own H' d v L:=h1.agree d fun b hb=>k b ⟨L,h1,hb⟩
  exact ⟨⟨e1,L,h1',h2⟩,fun b ⟨L',f,hb⟩=>⟨L,h1,by rw [Own.uniq d f h1'] at hb;exact hb⟩⟩
 | scr K ns=>exact ⟨h,fun b f=>f⟩
theorem fk.grow {Hs H H':Hp} {e:E} {v:V} (s:aH H H') (h:fk Hs H e v):fk Hs H' e v∧∀ b,Fp H' e v b→Fp H e v b:=h.agree fun b f=>by
 obtain ⟨_,o,ho⟩:=h.fp f
 rw [ho,s _ _ ho]
theorem fk.frame {Hs Hs1 H:Hp} {e:E} {v:V} (s:aH Hs Hs1) (h:fk Hs H e v) (k:∀ b,Fp H e v b→Hs1 b=none):fk Hs1 H e v:=by
 cases e with
 | sh d=>exact Rep.mono s d h
 | ow ds=>
  obtain ⟨a,vs,e1,m,h1,h2⟩:=h
  exact ⟨a,vs,e1,k a e1,h1,ay.mono s _ h2⟩
 | ob a C fs=>
  obtain ⟨e1,dx,fvs,m,m2,h1,h3,h2⟩:=h
  exact ⟨e1,dx,fvs,k a (.inl rfl),k dx (.inr ⟨fvs,h1⟩),h1,h3,dr.mono s _ h2⟩
 | nw d=>
  obtain ⟨L,h1,h2⟩:=h
  exact ⟨L,h1,fun b hb=>k b ⟨L,h1,hb⟩⟩
 | on a d=>
  obtain ⟨e1,L,h1,h2⟩:=h
  exact ⟨e1,L,h1,fun b hb=>k b ⟨L,h1,hb⟩⟩
 | scr K ns=>
  obtain ⟨a,e,h1⟩:=h
  exact ⟨a,e,gt s h1⟩
structure StR (H0 Hs H:Hp) (δ:DSt) (σ:St):Prop where
 ent:eZ Hs H δ σ
 len:σ.length=δ.length
 new:∀ (i:Nat) (e:E) (v:V) (b:Addr),δ[i]?=some (some e)→σ[i]?=some (some v)→Fp H e v b→H0 b=none
 dis:∀ (i j:Nat) (e e':E) (v v':V) (b:Addr),i≠j→δ[i]?=some (some e)→δ[j]?=some (some e')→σ[i]?=some (some v)→σ[j]?=some (some v')→Fp H e v b→Fp H e' v' b→False
theorem StR.rep {H0 Hs H:Hp} {δ:DSt} {σ:St} (h:StR H0 Hs H δ σ) {i:Nat} {e:E} {v:V} (q:δ[i]?=some (some e)) (hv:σ[i]?=some (some v)):fk Hs H e v:=by
 obtain ⟨v',h1,h2⟩:=h.ent i e q
 rw [hv] at h1;cases h1
 exact h2
theorem StR.mono {H0 H Hs Hs' H':Hp} {δ:DSt} {σ:St} (w:Wd H Hs Hs' H') (h:StR H0 Hs H δ σ):StR H0 Hs' H' δ σ:=by
 have g:∀ (i:Nat) (e:E) (v:V) (b:Addr),δ[i]?=some (some e)→σ[i]?=some (some v)→Fp H' e v b→Fp H e v b:=fun i e v b q1 q2 f=>((h.rep q1 q2).grow w.keep).2 b f
 exact ⟨h.ent.mono w,h.len,fun i e v b q1 q2 f=>h.new i e v b q1 q2 (g i e v b q1 q2 f),fun i j e e' v v' b n q1 q2 q3 q4 f f'=>h.dis i j e e' v v' b n q1 q2 q3 q4 (g i e v b q1 q3 f) (g j e' v' b q2 q4 f')⟩
theorem get_set {α:Type} {l:List α} {i j:Nat} {x y:α} (h:(l.set i x)[j]?=some y):(j=i∧y=x∧i<l.length)∨(j≠i∧l[j]?=some y):=by
 by_cases hj:j=i
 ·
  subst hj
  have hl:j<l.length:=by
   have:=(List.getElem?_eq_some_iff.mp h).1
   simpa using this
  rw [List.getElem?_set_self hl] at h
  exact .inl ⟨rfl,(Option.some.inj h).symm,hl⟩
 ·
  rw [List.getElem?_set_ne (Ne.symm hj)] at h
  exact .inr ⟨hj,h⟩
theorem StR.upG {H0 Hs0 Hs H Hs' H':Hp} {δ:DSt} {σ:St} {i:Nat} {e e':E} {v v':V} (W:Wd H0 Hs0 Hs H) (S:StR H0 Hs H δ σ) (q:δ[i]?=some (some e)) (hv:σ[i]?=some (some v))
  (keep:∀ b o,¬Fp H e v b→H b=some o→H' b=some o) (sub:aH Hs' H') (base:aH Hs Hs') (new:∀ a o,Hs' a=some o→Hs a=some o∨H a=none)
  (r:fk Hs' H' e' v') (own:∀ b,Fp H' e' v' b→Fp H e v b∨H b=none) :
  Wd H0 Hs0 Hs' H'∧StR H0 Hs' H' (δ.set i (some e')) (σ.set i (some v')):=by
 have hi:i<δ.length:=(List.getElem?_eq_some_iff.mp q).1
 have ag:∀ (j:Nat) (en:E) (u:V),j≠i→δ[j]?=some (some en)→σ[j]?=some (some u)→fk Hs' H' en u∧∀ b,Fp H' en u b→Fp H en u b:=fun j en u hj q1 q2=>by
  have r0:=S.rep q1 q2
  obtain ⟨r1,f1⟩:=r0.agree (H':=H') fun b f=>by
   obtain ⟨_,o,ho⟩:=r0.fp f
   rw [ho]
   exact keep b o (fun z=>S.dis j i en e u v b hj q1 q q2 hv f z) ho
  refine ⟨r1.frame base fun b f=>?_,f1⟩
  obtain ⟨m,o,ho⟩:=r0.fp (f1 b f)
  cases z:Hs' b with
  | none=>rfl
  | some o'=>
   rcases new b o' z with z' | z'
   ·
    rw [m] at z';cases z'
   ·
    rw [ho] at z';cases z'
 refine ⟨⟨fun b o hb=>?_,sub,W.base.trans base,fun a o ha=>?_⟩,⟨fun j en hj=>?_,by simpa using S.len,fun j en u b hj hu f=>?_,fun j k e1 e2 u1 u2 b hjk h1 h2 g1 g2 f1 f2=>?_⟩⟩
 ·
  refine keep b o (fun z=>?_) (W.keep _ _ hb)
  rw [S.new i e v b q hv z] at hb;cases hb
 ·
  rcases new a o ha with z | z
  ·
   exact W.new a o z
  ·
   exact .inr (W.keep.free z)
 ·
  rcases get_set hj with ⟨rfl,e1,_⟩ | ⟨hne,q1⟩
  ·
   cases e1
   exact ⟨v',List.getElem?_set_self (by rw [S.len];exact hi),r⟩
  ·
   obtain ⟨u,hu,_⟩:=S.ent j en q1
   exact ⟨u,by rw [List.getElem?_set_ne (Ne.symm hne)];exact hu,(ag j en u hne q1 hu).1⟩
 ·
  rcases get_set hj with ⟨rfl,e1,_⟩ | ⟨hne,q1⟩
  ·
   cases e1
   rw [List.getElem?_set_self (by rw [S.len];exact hi)] at hu
   cases hu
   rcases own b f with z | z
   ·
    exact S.new _ e v b q hv z
   ·
    exact W.keep.free z
  ·
   rw [List.getElem?_set_ne (Ne.symm hne)] at hu
   exact S.new j en u b q1 hu ((ag j en u hne q1 hu).2 b f)
 ·
  have other:∀ (j:Nat) (en:E) (u:V),j≠i→δ[j]?=some (some en)→σ[j]?=some (some u)→Fp H' en u b→Fp H' e' v' b→False:=fun j en u hne q1 q2 f f'=>by
   have f0:=(ag j en u hne q1 q2).2 b f
   rcases own b f' with z | z
   ·
    exact S.dis j i en e u v b hne q1 q q2 hv f0 z
   ·
    obtain ⟨_,o,ho⟩:=(S.rep q1 q2).fp f0
    rw [ho] at z;cases z
  rcases get_set h1 with ⟨rfl,z1,_⟩ | ⟨hne,q1⟩
  ·
   rcases get_set h2 with ⟨rfl,z2,_⟩ | ⟨hne2,q2⟩
   ·
    exact hjk rfl
   ·
    cases z1
    rw [List.getElem?_set_self (by rw [S.len];exact hi)] at g1
    rw [List.getElem?_set_ne (Ne.symm hne2)] at g2
    cases g1
    exact other k e2 u2 hne2 q2 g2 f2 f1
  ·
   rw [List.getElem?_set_ne (Ne.symm hne)] at g1
   rcases get_set h2 with ⟨rfl,z2,_⟩ | ⟨hne2,q2⟩
   ·
    cases z2
    rw [List.getElem?_set_self (by rw [S.len];exact hi)] at g2
    cases g2
    exact other j e1 u1 hne q1 g1 f1 f2
   ·
    rw [List.getElem?_set_ne (Ne.symm hne2)] at g2
    exact S.dis j k e1 e2 u1 u2 b hjk q1 q2 g1 g2 ((ag j e1 u1 hne q1 g1).2 b f1) ((ag k e2 u2 hne2 q2 g2).2 b f2)
theorem StR.put {H0 Hs H Hs' H':Hp} {δ:DSt} {σ:St} {i:Nat} {e':E} {v':V} (k:aH H0 H) (S:StR H0 Hs H δ σ) (w:Wd H Hs Hs' H') (r:fk Hs' H' e' v') (own:∀ b,Fp H' e' v' b→H b=none) :
  StR H0 Hs' H' (δ.set i (some e')) (σ.set i (some v')):=by
 have S':=S.mono w
 have back:∀ (j:Nat) (en:E) (u:V) (b:Addr),δ[j]?=some (some en)→σ[j]?=some (some u)→Fp H' en u b→∃ o,H b=some o:=fun j en u b q1 q2 f=>((S.rep q1 q2).fp (((S.rep q1 q2).grow w.keep).2 b f)).2
 refine ⟨fun j en hj=>?_,by simpa using S.len,fun j en u b hj hu f=>?_,fun j k e1 e2 u1 u2 b hjk h1 h2 g1 g2 f1 f2=>?_⟩
 ·
  rcases get_set hj with ⟨rfl,e1,hl⟩ | ⟨hne,q1⟩
  ·
   cases e1
   exact ⟨v',List.getElem?_set_self (by rw [S.len];exact hl),r⟩
  ·
   obtain ⟨u,hu,hr⟩:=S'.ent j en q1
   exact ⟨u,by rw [List.getElem?_set_ne (Ne.symm hne)];exact hu,hr⟩
 ·
  rcases get_set hj with ⟨rfl,e1,hl⟩ | ⟨hne,q1⟩
  ·
   cases e1
   rw [List.getElem?_set_self (by rw [S.len];exact hl)] at hu
   cases hu
   exact k.free (own b f)
  ·
   rw [List.getElem?_set_ne (Ne.symm hne)] at hu
   exact S'.new j en u b q1 hu f
 ·
  have other:∀ (j:Nat) (en:E) (u:V),δ[j]?=some (some en)→σ[j]?=some (some u)→Fp H' en u b→Fp H' e' v' b→False:=fun j en u q1 q2 f f'=>by
   obtain ⟨o,ho⟩:=back j en u b q1 q2 f
   rw [own b f'] at ho;cases ho
  rcases get_set h1 with ⟨rfl,z1,hl⟩ | ⟨hne,q1⟩
  ·
   rcases get_set h2 with ⟨rfl,z2,_⟩ | ⟨hne2,q2⟩
   ·
    exact hjk rfl
   ·
    cases z1
    rw [List.getElem?_set_self (by rw [S.len];exact hl)] at g1
    rw [List.getElem?_set_ne (Ne.symm hne2)] at g2
    cases g1
    exact other k e2 u2 q2 g2 f2 f1
  ·
   rw [List.getElem?_set_ne (Ne.symm hne)] at g1
   rcases get_set h2 with ⟨rfl,z2,hl⟩ | ⟨hne2,q2⟩
   ·
    cases z2
    rw [List.getElem?_set_self (by rw [S.len];exact hl)] at g2
    cases g2
    exact other j e1 u1 q1 g1 f1 f2
   ·
    rw [List.getElem?_set_ne (Ne.symm hne2)] at g2
    exact S'.dis j k e1 e2 u1 u2 b hjk q1 q2 g1 g2 f1 f2
theorem set_same {α:Type} {l:List α} {i:Nat} {x:α} (h:l[i]?=some x):l.set i x=l:=by
 apply List.ext_getElem?
 intro j
 by_cases hj:i=j
 ·
  subst hj
  rw [List.getElem?_set_self (List.getElem?_eq_some_iff.mp h).1,h]
 ·
  rw [List.getElem?_set_ne hj]
inductive Res where
 | nx (δ:DSt)
 | rt (r:R)
 | bk (δ:DSt)
 | ct (δ:DSt)
 | rn (d:D)
def Post (H0 Hs0:Hp) (D:Ends):Res→Prop
 | .nx δ=>∀ σ Hs H,Wd H0 Hs0 Hs H→StR H0 Hs H δ σ→D.nx σ H
 | .rt r=>∀ v Hs H,Wd H0 Hs0 Hs H→cV H0 Hs H r v→D.rt v H
 | .bk δ=>∀ σ Hs H,Wd H0 Hs0 Hs H→StR H0 Hs H δ σ→D.bk σ H
 | .ct δ=>∀ σ Hs H,Wd H0 Hs0 Hs H→StR H0 Hs H δ σ→D.ct σ H
 | .rn d=>∀ v Hs H L,Wd H0 Hs0 Hs H→Own H d v L→(∀ a∈L,H0 a=none∧Hs a=none)→D.rt v H
abbrev FS:=DSt→Option Res
def tS (H0 Hs0:Hp) (F:FS):TS:=fun D σ H=>∃ Hs δ res,Wd H0 Hs0 Hs H∧StR H0 Hs H δ σ∧F δ=some res∧Post H0 Hs0 D res
structure DS (X:Cx) (st:Stmt) (F:FS):Prop where
 go:∀ H0 Hs0,PS X st (tS H0 Hs0 F)
structure DSs (X:Cx) (st:List Stmt) (F:FS):Prop where
 go:∀ H0 Hs0,PSs X st (tS H0 Hs0 F)
def Res.thn (G:FS):Res→Option Res
 | .nx δ=>G δ
 | .rt r=>some (.rt r)
 | .bk δ=>some (.bk δ)
 | .ct δ=>some (.ct δ)
 | .rn d=>some (.rn d)
def aE:FS:=fun δ=>some (.nx δ)
def av (F G:FS):FS:=fun δ=>(F δ).bind (Res.thn G)
section
variable {X:Cx} {st:Stmt} {rest:List Stmt} {F G:FS} {e:Expr} {f:FE} {pos:Pos}
theorem dss_nil:DSs X [] aE:=.mk fun H0 Hs0=>pss_nil.weak fun D σ H ⟨Hs,δ,res,W,S,e,P⟩=>by
 cases e
 exact P σ Hs H W S
theorem ak (h1:DS X st F) (h2:DSs X rest G):DSs X (st::rest) (av F G):=.mk fun H0 Hs0=>(pss_cons (h1.go H0 Hs0) (h2.go H0 Hs0)).weak fun D σ H ⟨Hs,δ,res,W,S,e,P⟩=>by
 unfold av at e
 cases ef:F δ with
 | none=>rw [ef] at e;cases e
 | some r1=>
  rw [ef] at e
  refine ⟨Hs,δ,r1,W,S,ef,?_⟩
  cases r1 with
  | nx δ1=>exact fun σ1 Hs1 H1 W1 S1=>⟨Hs1,δ1,res,W1,S1,e,P⟩
  | rt r=>cases e;exact P
  | bk δ1=>cases e;exact P
  | ct δ1=>cases e;exact P
  | rn d=>cases e;exact P
theorem al (h1:DS X st F):DSs X [st] F:=.mk fun H0 Hs0=>pss_one (h1.go H0 Hs0)
theorem ip:DS X st (fun _=>none):=.mk fun H0 Hs0 pins s σ H D I ⟨Hs,δ,res,W,S,e,P⟩=>by cases e
def sif (t:DSt→Option Bool) (F G:FS):FS:=fun δ=>(t δ).bind fun b=>if b=true then F δ else G δ
theorem ds_if {c:Expr} {a b:List Stmt} {t:DSt→Option Bool} (hc:DT X c t) (ha:DSs X a F) (hb:DSs X b G):DS X (.If c a b pos) (sif t F G):=.mk fun H0 Hs0=>(ps_if hc.go (ha.go H0 Hs0) (hb.go H0 Hs0)).weak fun D σ H ⟨Hs,δ,res,W,S,e,P⟩=>by
 unfold sif at e
 cases et:t δ with
 | none=>rw [et] at e;cases e
 | some k=>
  rw [et] at e
  refine ⟨Hs,δ,k,W.sub,S.ent,et,fun Hs1 H1 W1=>?_⟩
  cases k with
  | true=>rw [if_pos rfl];exact ⟨Hs1,δ,res,W.trans W1,S.mono W1,e,P⟩
  | false=>rw [if_neg Bool.false_ne_true];exact ⟨Hs1,δ,res,W.trans W1,S.mono W1,e,P⟩
def aR (f:FE):FS:=fun δ=>(f δ).bind fun r=>if r.isBw=true then none else some (.rt r)
theorem aC (h:DE X e f):DS X (.Return (some e) pos) (aR f):=.mk fun H0 Hs0=>(ps_ret h.go).weak fun D σ H ⟨Hs,δ,res,W,S,e,P⟩=>by
 unfold aR at e
 cases et:f δ with
 | none=>rw [et] at e;cases e
 | some r=>
  rw [et] at e
  by_cases hb:r.isBw=true
  ·
   rw [show (some r).bind _=(if r.isBw=true then none else some (Res.rt r)) from rfl,if_pos hb] at e;cases e
  ·
   rw [show (some r).bind _=(if r.isBw=true then none else some (Res.rt r)) from rfl,if_neg hb] at e
   cases e
   exact ⟨Hs,δ,r,W.sub,S.ent,et,fun v Hs1 H1 W1 R1=>P v Hs1 H1 (W.trans W1) (R1.older W.keep)⟩
def jw (i:Nat):FS:=fun δ=>match δ[i]? with
 | some (some (.ow ds))=>some (.rt (.fr ds))
 | some (some (.sh d))=>some (.rt (.sh d))
 | some (some (.nw d))=>some (.rn d)
 | _=>none
theorem lG {i:Nat} {x:Str} {p:Pos} (h:PE X (.Name x p) (tVar i)):DS X (.Return (some (.Name x p)) pos) (jw i):=.mk fun H0 Hs0=>(ps_ret h).weak fun D σ H ⟨Hs,δ,res,W,S,e,P⟩=>by
 unfold jw at e
 cases q:δ[i]? with
 | none=>rw [q] at e;cases e
 | some o=>
  cases o with
  | none=>rw [q] at e;cases e
  | some en=>
   rw [q] at e
   obtain ⟨v,hv,hr⟩:=S.ent i en q
   refine ⟨v,hv,?_⟩
   cases en with
   | sh d=>cases e;exact P v Hs H W hr
   | ow ds=>
    cases e
    obtain ⟨a,vs,e1,m,h1,h2⟩:=hr
    subst e1
    exact P _ Hs H W ⟨a,vs,rfl,S.new i _ _ a q hv rfl,m,h1,h2⟩
   | ob a C fs=>cases e
   | nw d=>
    cases e
    obtain ⟨L,h1,h2⟩:=hr
    exact P _ Hs H L W h1 fun b hb=>⟨S.new i _ _ b q hv ⟨L,h1,hb⟩,h2 b hb⟩
   | on b d=>cases e
   | scr K ns=>cases e
def frz (i:Nat) (δ:DSt):DSt:=match δ[i]? with
 | some (some (.ow ds))=>δ.set i (some (.sh (.lst ds)))
 | some (some (.nw d))=>δ.set i (some (.sh d))
 | _=>δ
theorem Own.share {Hs H:Hp} {d:D} {v:V} {L:List Addr} (s:aH Hs H) (h:Own H d v L) (n:∀ a∈L,Hs a=none) :
  ∃ Hs1,Rep Hs1 d v∧aH Hs1 H∧aH Hs Hs1∧∀ a o,Hs1 a=some o→Hs a=some o∨a∈L:=by
 classical
 refine ⟨fun a=>if a∈L then H a else Hs a,h.rep d fun a ha=>by simp [ha],fun a o e=>?_,fun a o e=>?_,fun a o e=>?_⟩
 ·
  by_cases ha:a∈L
  ·
   simpa [ha] using e
  ·
   simp [ha] at e;exact s _ _ e
 ·
  by_cases ha:a∈L
  ·
   rw [n a ha] at e;cases e
  ·
   simp [ha];exact e
 ·
  by_cases ha:a∈L
  ·
   exact .inr ha
  ·
   simp [ha] at e;exact .inl e
theorem StR.frz1 {H0 Hs0 Hs Hs1 H:Hp} {δ:DSt} {σ:St} {i:Nat} {e:E} {v:V} {d:D} (W:Wd H0 Hs0 Hs H) (S:StR H0 Hs H δ σ) (q:δ[i]?=some (some e)) (hv:σ[i]?=some (some v))
  (r:Rep Hs1 d v) (sub:aH Hs1 H) (base:aH Hs Hs1) (new:∀ a o,Hs1 a=some o→Hs a=some o∨Fp H e v a):Wd H0 Hs0 Hs1 H∧StR H0 Hs1 H (δ.set i (some (.sh d))) σ:=by
 have hi:i<δ.length:=(List.getElem?_eq_some_iff.mp q).1
 have fr:∀ (j:Nat) (en:E) (u:V),j≠i→δ[j]?=some (some en)→σ[j]?=some (some u)→fk Hs1 H en u:=fun j en u hj q1 q2=>by
  have r0:=S.rep q1 q2
  refine r0.frame base fun b f=>?_
  obtain ⟨m,_⟩:=r0.fp f
  cases z:Hs1 b with
  | none=>rfl
  | some o=>
   rcases new b o z with z' | z'
   ·
    rw [m] at z';cases z'
   ·
    exact (S.dis j i en e u v b hj q1 q q2 hv f z').elim
 refine ⟨⟨W.keep,sub,W.base.trans base,fun a o ha=>?_⟩,⟨fun j en hj=>?_,by simpa using S.len,fun j en u b hj hu f=>?_,fun j k e1 e2 u1 u2 b hjk h1 h2 g1 g2 f1 f2=>?_⟩⟩
 ·
  rcases new a o ha with z | z
  ·
   exact W.new a o z
  ·
   exact .inr (S.new i e v a q hv z)
 ·
  rcases get_set hj with ⟨rfl,e1,_⟩ | ⟨hne,q1⟩
  ·
   cases e1
   exact ⟨v,hv,r⟩
  ·
   obtain ⟨u,hu,_⟩:=S.ent j en q1
   exact ⟨u,hu,fr j en u hne q1 hu⟩
 ·
  rcases get_set hj with ⟨rfl,e1,_⟩ | ⟨hne,q1⟩
  ·
   cases e1;cases f
  ·
   exact S.new j en u b q1 hu f
 ·
  rcases get_set h1 with ⟨rfl,z1,_⟩ | ⟨hne,q1⟩
  ·
   cases z1;cases f1
  ·
   rcases get_set h2 with ⟨rfl,z2,_⟩ | ⟨hne2,q2⟩
   ·
    cases z2;cases f2
   ·
    exact S.dis j k e1 e2 u1 u2 b hjk q1 q2 g1 g2 f1 f2
theorem StR.frz {H0 Hs0 Hs H:Hp} {δ:DSt} {σ:St} {i:Nat} (W:Wd H0 Hs0 Hs H) (S:StR H0 Hs H δ σ):∃ Hs1,Wd H0 Hs0 Hs1 H∧StR H0 Hs1 H (frz i δ) σ:=by
 unfold Ew.frz
 cases q:δ[i]? with
 | none=>exact ⟨Hs,W,S⟩
 | some o=>
  cases o with
  | none=>exact ⟨Hs,W,S⟩
  | some en=>
   cases en with
   | sh d=>exact ⟨Hs,W,S⟩
   | ob a C fs=>exact ⟨Hs,W,S⟩
   | on b d=>exact ⟨Hs,W,S⟩
   | scr K ns=>exact ⟨Hs,W,S⟩
   | nw d=>
    obtain ⟨v,hv,L,h1,h2⟩:=S.ent i _ q
    obtain ⟨Hs1,r,s1,s2,s3⟩:=h1.share W.sub h2
    exact ⟨Hs1,S.frz1 W q hv r s1 s2 fun a o e=>(s3 a o e).imp id fun z=>⟨L,h1,z⟩⟩
   | ow ds=>
    obtain ⟨v,hv,a,vs,e1,m,h1,h2⟩:=S.ent i _ q
    subst e1
    refine ⟨L2.upd Hs a (.lst vs),S.frz1 W q hv ?_ (fun b o e=>?_) (.new m) fun b o e=>?_⟩
    ·
     unfold Rep
     exact ⟨a,vs,rfl,ax,ay.mono (.new m) ds h2⟩
    ·
     by_cases hb:b=a
     ·
      subst hb;rw [ax] at e;cases e;exact h1
     ·
      rw [aA hb] at e;exact W.sub _ _ e
    ·
     by_cases hb:b=a
     ·
      subst hb;exact .inr rfl
     ·
      rw [aA hb] at e;exact .inl e
def dO (i:Nat) (F:FS):FS:=fun δ=>F (frz i δ)
theorem dz {i:Nat} (h:DS X st F):DS X st (dO i F):=.mk fun H0 Hs0=>(h.go H0 Hs0).weak fun D σ H ⟨Hs,δ,res,W,S,e,P⟩=>by
 obtain ⟨Hs1,W1,S1⟩:=S.frz (i:=i) W
 exact ⟨Hs1,_,res,W1,S1,e,P⟩
def R.ent:R→Option E
 | .sh d=>some (.sh d)
 | .fr ds=>some (.ow ds)
 | .bw _=>none
theorem StR.set {H0 Hs0 H Hs Hs' H':Hp} {δ:DSt} {σ:St} {i:Nat} {r:R} {v:V} {en:E} (W:Wd H0 Hs0 Hs H) (S:StR H0 Hs H δ σ) (w:Wd H Hs Hs' H') (h:cV H Hs' H' r v) (e:r.ent=some en):StR H0 Hs' H' (δ.set i (some en)) (σ.set i (some v)):=by
 refine S.put W.keep w ?_ fun b f=>?_
 ·
  cases r with
  | sh d=>cases e;exact h
  | fr ds=>cases e;obtain ⟨a,vs,e1,_,m,h1,h2⟩:=h;exact ⟨a,vs,e1,m,h1,h2⟩
  | bw ds=>cases e
 ·
  cases r with
  | sh d=>cases e;cases f
  | fr ds=>cases e;obtain ⟨a,vs,e1,n,_⟩:=h;rw [e1] at f;cases f;exact n
  | bw ds=>cases e
def sset (i:Nat) (f:FE):FS:=fun δ=>(f δ).bind fun r=>r.ent.bind fun en=>some (.nx (δ.set i (some en)))
theorem ts_set {H0 Hs0:Hp} {i:Nat} {D:Ends} {σ:St} {H:Hp} (h:tS H0 Hs0 (sset i f) D σ H):tAsg (tD f) (kR i) D σ H:=by
 obtain ⟨Hs,δ,res,W,S,e,P⟩:=h
 unfold sset at e
 cases et:f δ with
 | none=>rw [et] at e;cases e
 | some r=>
  rw [et] at e
  replace e:(r.ent.bind fun en=>some (Res.nx (δ.set i (some en))))=some res:=e
  cases ee:r.ent with
  | none=>rw [ee] at e;cases e
  | some en=>
   rw [ee] at e
   cases e
   exact ⟨Hs,δ,r,W.sub,S.ent,et,fun v Hs1 H1 W1 R1=>P _ Hs1 H1 (W.trans W1) (S.set W W1 R1 ee)⟩
theorem ds_set {i:Nat} {x:Str} {pos':Pos} (hN:X.N.Nodup) (hi:X.N[i]?=some x) (hx:Loc X.env.scope x) (he:DE X e f) (hs:swapsWith e (some (.Name x pos')) pos.line X.env=pure false:=by rfl)
 (hf:X.fn x=true∨X.env.scope.names.lookup x=some .local:=by first | exact .inl rfl | exact .inr rfl | assumption):DS X (.Assign [.Name x pos'] e pos) (sset i f):=.mk fun H0 Hs0=>(ps_set hN hi hx he.go hs hf).weak fun _ _ _=>ts_set
end
end Ew
end
section
set_option Elab.async false
set_option linter.all false
set_option maxRecDepth 100000
namespace L2
open PySem PySem.Spec
theorem PI.weak {X:Cx} {tg iter:Expr} {t t':TI} (h:PI X tg iter t) (w:∀ σ H R,t' σ H R→t σ H R):PI X tg iter t':=fun pins s σ H R I q=>h pins s σ H R I (w σ H R q)
theorem PG.weak {X:Cx} {tg:Expr} {t t':TG} (h:PG X tg t) (w:∀ v σ H Q,t' v σ H Q→t v σ H Q):PG X tg t':=fun pins s σ H v u Q I r q=>h pins s σ H v u Q I r (w v σ H Q q)
theorem PGs.weak {X:Cx} {ts:List Expr} {t t':TGs} (h:PGs X ts t) (w:∀ v σ H Q,t' v σ H Q→t v σ H Q):PGs X ts t':=fun pins s σ H v u Q I r q=>h pins s σ H v u Q I r (w v σ H Q q)
end L2
namespace Ew
open PySem PySem.Spec L2
structure iq (Hs:Hp) (ks:List Nat) (δ:DSt) (σ:St) (δ':DSt) (σ':St):Prop where
 lenS:σ'.length=σ.length
 lenD:δ'.length=δ.length
 out:∀ j,j∉ks→δ'[j]?=δ[j]?∧σ'[j]?=σ[j]?
 ins:∀ j,j∈ks→∃ d v,δ'[j]?=some (some (.sh d))∧σ'[j]?=some (some v)∧Rep Hs d v
theorem iq.refl {Hs:Hp} {δ:DSt} {σ:St}:iq Hs [] δ σ δ σ:=⟨rfl,rfl,fun _ _=>⟨rfl,rfl⟩,fun _ h=>by cases h⟩
theorem iq.trans {Hs:Hp} {ks js:List Nat} {δ δ1 δ2:DSt} {σ σ1 σ2:St} (a:iq Hs ks δ σ δ1 σ1) (b:iq Hs js δ1 σ1 δ2 σ2):iq Hs (ks++js) δ σ δ2 σ2:=
 ⟨b.lenS.trans a.lenS,b.lenD.trans a.lenD,fun j hj=>by
  have h1:j∉ks:=fun z=>hj (List.mem_append_left _ z)
  have h2:j∉js:=fun z=>hj (List.mem_append_right _ z)
  exact ⟨(b.out j h2).1.trans (a.out j h1).1,(b.out j h2).2.trans (a.out j h1).2⟩,fun j hj=>by
  by_cases h2:j∈js
  ·
   exact b.ins j h2
  ·
   have h1:j∈ks:=(List.mem_append.mp hj).elim id fun z=>absurd z h2
   obtain ⟨d,v,e1,e2,r⟩:=a.ins j h1
   exact ⟨d,v,(b.out j h2).1.trans e1,(b.out j h2).2.trans e2,r⟩⟩
theorem iq.ent {Hs H:Hp} {ks:List Nat} {δ δ':DSt} {σ σ':St} (r:iq Hs ks δ σ δ' σ') (h:eZ Hs H δ σ):eZ Hs H δ' σ':=fun i e q=>by
 by_cases hi:i∈ks
 ·
  obtain ⟨d,v,e1,e2,rr⟩:=r.ins i hi
  rw [q] at e1;cases e1
  exact ⟨v,e2,rr⟩
 ·
  rw [(r.out i hi).1] at q
  rw [(r.out i hi).2]
  exact h i e q
theorem iq.st {H0 Hs H:Hp} {ks:List Nat} {δ δ':DSt} {σ σ':St} (r:iq Hs ks δ σ δ' σ') (h:StR H0 Hs H δ σ):StR H0 Hs H δ' σ':=by
 have no:∀ i en,δ'[i]?=some (some en)→(∀ d,en≠.sh d)→i∉ks:=fun i en q n hi=>by
  obtain ⟨d,v,e1,_⟩:=r.ins i hi
  rw [q] at e1;cases e1
  exact n d rfl
 have fp:∀ i en v b,δ'[i]?=some (some en)→Fp H en v b→i∉ks:=fun i en v b q f=>no i en q fun d z=>by rw [z] at f;cases f
 refine ⟨r.ent h.ent,by rw [r.lenS,r.lenD];exact h.len,fun i e v b q1 q2 f=>?_,fun i j e e' v v' b hij q1 q2 q3 q4 f f'=>?_⟩
 ·
  have hi:=fp i e v b q1 f
  rw [(r.out i hi).1] at q1;rw [(r.out i hi).2] at q2
  exact h.new i e v b q1 q2 f
 ·
  have hi:=fp i e v b q1 f
  have hj:=fp j e' v' b q2 f'
  rw [(r.out i hi).1] at q1;rw [(r.out i hi).2] at q3
  rw [(r.out j hj).1] at q2;rw [(r.out j hj).2] at q4
  exact h.dis i j e e' v v' b hij q1 q2 q3 q4 f f'
abbrev GD:=D→DSt→Option DSt
abbrev GDs:=List D→DSt→Option DSt
def tG (ks:List Nat) (g:GD):TG:=fun v σ H Q=>∃ Hs δ d δ',aH Hs H∧σ.length=δ.length∧Rep Hs d v∧g d δ=some δ'∧∀ σ',iq Hs ks δ σ δ' σ'→Q σ' H
def tGs (ks:List Nat) (g:GDs):TGs:=fun vs σ H Q=>∃ Hs δ ds δ',aH Hs H∧σ.length=δ.length∧ay Hs ds vs∧g ds δ=some δ'∧∀ σ',iq Hs ks δ σ δ' σ'→Q σ' H
structure DG (X:Cx) (tg:Expr) (ks:List Nat) (g:GD):Prop where
 go:PG X tg (tG ks g)
structure DGs (X:Cx) (ts:List Expr) (ks:List Nat) (g:GDs):Prop where
 go:PGs X ts (tGs ks g)
def ar (i:Nat):GD:=fun d δ=>if i<δ.length then some (δ.set i (some (.sh d))) else none
theorem iq.name {Hs:Hp} {i:Nat} {δ:DSt} {σ:St} {d:D} {v:V} (hl:σ.length=δ.length) (hi:i<δ.length) (r:Rep Hs d v):iq Hs [i] δ σ (δ.set i (some (.sh d))) (σ.set i (some v)):=
 ⟨by simp,by simp,fun j hj=>by
  have:i≠j:=fun z=>hj (by simp [z])
  exact ⟨List.getElem?_set_ne this,List.getElem?_set_ne this⟩,fun j hj=>by
  have e:j=i:=by simpa using hj
  subst e
  exact ⟨d,v,List.getElem?_set_self hi,List.getElem?_set_self (by rw [hl];exact hi),r⟩⟩
section
variable {X:Cx} {pos:Pos}
theorem dg_name {i:Nat} {x:Str} (h:PG X (.Name x pos) (kR i)):DG X (.Name x pos) [i] (ar i):=.mk <| h.weak fun v σ H Q ⟨Hs,δ,d,δ',S,hl,r,e,K⟩=>by
 unfold ar at e
 by_cases hi:i<δ.length
 ·
  rw [if_pos hi] at e
  cases e
  exact K _ (.name hl hi r)
 ·
  rw [if_neg hi] at e;cases e
def gnil:GDs:=fun ds δ=>match ds with
 | []=>some δ
 | _=>none
def eN (g:GD) (gs:GDs):GDs:=fun ds δ=>match ds with
 | d::r=>(g d δ).bind fun δ1=>gs r δ1
 | []=>none
theorem dgs_nil:DGs X [] [] gnil:=.mk <| pgs_nil.weak fun vs σ H Q ⟨Hs,δ,ds,δ',S,hl,r,e,K⟩=>by
 cases ds with
 | nil=>cases e;unfold ay at r;exact ⟨r,K σ .refl⟩
 | cons d ds=>cases e
theorem mC {e:Expr} {es:List Expr} {ks js:List Nat} {g:GD} {gs:GDs} (h1:DG X e ks g) (h2:DGs X es js gs)
  (hs:(assignEach (e::es) X.env).map (·.2)=assign e X.env::(assignEach es X.env).map (·.2):=by rfl):DGs X (e::es) (ks++js) (eN g gs):=.mk <|
 (pgs_cons h1.go h2.go hs).weak fun vs σ H Q ⟨Hs,δ,ds,δ',S,hl,r,e,K⟩=>by
  cases ds with
  | nil=>cases e
  | cons d ds=>
   unfold ay at r
   obtain ⟨v,t,rfl,r1,r2⟩:=r
   unfold eN at e
   cases eg:g d δ with
   | none=>simp only [eg] at e;cases e
   | some δ1=>
    simp only [eg] at e
    exact ⟨v,t,rfl,Hs,δ,d,δ1,S,hl,r1,eg,fun σ1 q1=>⟨Hs,δ1,ds,δ',S,by rw [q1.lenS,q1.lenD];exact hl,r2,e,fun σ2 q2=>K σ2 (q1.trans q2)⟩⟩
def gtup (n:Nat) (gs:GDs):GD:=fun d δ=>match d with
 | .tup ds=>if ds.length=n then gs ds δ else none
 | _=>none
theorem dg_tup {es:List Expr} {k:Nat} {ks:List Nat} {gs:GDs} {n:Nat} (hc:X.calm=true) (h:DGs X es ks gs)
  (hn:(assignEach es X.env).length=n:=by rfl) (hst:(assignEach es X.env).findIdx? (·.1)=none:=by rfl):DG X (.Tuple es k pos) ks (gtup n gs):=.mk <|
 (pg_tup hc h.go hn hst).weak fun v σ H Q ⟨Hs,δ,d,δ',S,hl,r,e,K⟩=>by
  cases d with
  | tup ds=>
   unfold Rep at r
   obtain ⟨a,vs,rfl,h1,h2⟩:=r
   unfold gtup at e
   by_cases hd:ds.length=n
   ·
    simp only [if_pos hd] at e
    exact ⟨a,vs,rfl,.of (S _ _ h1),h2.length.trans hd,Hs,δ,ds,δ',S,hl,h2,e,K⟩
   ·
    simp only [if_neg hd] at e;cases e
  | _=>cases e
end
def Yields (J:It) (Hs1:Hp) (items:List D):Prop:=∀ i Hs H,aH Hs1 Hs→aH Hs H→
 (∀ d,items[i]?=some d→J.go i H∧∀ x H',J.yld i H x H'→∃ Hs',Wd H Hs Hs' H'∧Rep Hs' d x)∧(items.length≤i→J.stop i H)
def tI (fi:DSt→Option (List D)):TI:=fun σ H R=>∃ Hs δ items,aH Hs H∧eZ Hs H δ σ∧fi δ=some items∧∀ J Hs' H',Wd H Hs Hs' H'→Yields J Hs' items→R J H'
structure DI (X:Cx) (tg iter:Expr) (fi:DSt→Option (List D)):Prop where
 go:PI X tg iter (tI fi)
def aW (f:FE):DSt→Option (List D):=fun δ=>(f δ).bind fun r=>if r.isBw=true then none else match r.view with
 | .lst ds=>some ds
 | _=>none
def itup (f:FE):DSt→Option (List D):=fun δ=>(f δ).bind fun r=>match r with
 | .sh (.tup ds)=>some ds
 | _=>none
theorem mD {K:PySem.W.Frag} {Hs1:Hp} {a:Addr} {vs:List V} {ds:List D} (h:Hs1 a=some (.lst vs)) (r:ay Hs1 ds vs):Yields (Itl K a) Hs1 ds:=by
 intro i Hs H S1 S2
 have hH:=S2 _ _ (S1 _ _ h)
 refine ⟨fun d hd=>?_,fun hl=>⟨vs,.of hH,by rw [r.length];exact hl⟩⟩
 obtain ⟨v,hv,rv⟩:=r.get hd
 refine ⟨⟨vs,v,.of hH,hv⟩,fun x H' y=>?_⟩
 obtain ⟨rfl,y⟩:=y
 have:=y vs (.of hH)
 rw [hv] at this;cases this
 exact ⟨Hs,.refl S2,Rep.mono S1 _ rv⟩
theorem iu {Hs1:Hp} {lo:Int} {n:Nat}:Yields (Itr lo n) Hs1 ((List.range n).map fun k=>.int (lo+(k:Nat))):=by
 intro i Hs H S1 S2
 refine ⟨fun d hd=>?_,fun hl=>(show n≤i by simpa using hl)⟩
 have hi:i<n:=by
  have:=(List.getElem?_eq_some_iff.mp hd).1
  simpa using this
 rw [List.getElem?_map,List.getElem?_range hi] at hd
 cases hd
 refine ⟨hi,fun x H' y=>?_⟩
 obtain ⟨rfl,rfl⟩:=y
 exact ⟨Hs,.refl S2,by unfold Rep;rfl⟩
section
variable {X:Cx} {tg l:Expr} {f:FE}
theorem bz (hl:DE X l f):DI X tg l (aW f):=.mk <| (pi_list hl.go).weak fun σ H R ⟨Hs,δ,items,S,En,e,K⟩=>by
 unfold aW at e
 cases ef:f δ with
 | none=>rw [ef] at e;cases e
 | some r=>
  rw [ef] at e
  by_cases hb:r.isBw=true
  ·
   simp only [Option.bind,if_pos hb] at e;cases e
  ·
   simp only [Option.bind,if_neg hb] at e
   refine ⟨Hs,δ,r,S,En,ef,fun x Hs1 H1 W1 R1=>?_⟩
   obtain ⟨Hs2,q,W2⟩:=R1.share W1 (fun ds z=>hb (by rw [z];rfl))
   cases hv:r.view with
   | lst ds=>
    rw [hv] at e q
    cases e
    unfold Rep at q
    obtain ⟨a,vs,rfl,h1,h2⟩:=q
    exact ⟨a,rfl,⟨vs,.of (W2.sub _ _ h1)⟩,K _ Hs2 H1 W2 (mD h1 h2)⟩
   | _=>rw [hv] at e;cases e
def f8 (fa:DSt→Option (List R)):DSt→Option (List D):=fun δ=>(fa δ).bind fun rs=>match rs with
 | [.sh (.int j)]=>if -(2 ^ 62)≤j∧j<2 ^ 62 then some ((List.range j.toNat).map fun k=>.int (0+(k:Nat))) else none
 | _=>none
def kd (fa:DSt→Option (List R)):DSt→Option (List D):=fun δ=>(fa δ).bind fun rs=>match rs with
 | [.sh (.int i),.sh (.int j)]=>if (-(2 ^ 62)≤i∧i<2 ^ 62)∧-(2 ^ 62)≤j∧j<2 ^ 62 then some ((List.range (j-i).toNat).map fun k=>.int (i+(k:Nat))) else none
 | _=>none
theorem di_range1 {a:Expr} {fa:DSt→Option (List R)} {p pos:Pos} (hg:Gl X "range") (hm:X.mg "range" = none) (ha:DA X [a] fa) (hs:starEach [a] X.env=[(false,eval a X.env)]:=by rfl):DI X tg (.Call (.Name "range" p) [a] [] pos) (f8 fa):=.mk <|
 (pi_range1 hg hm ha.go hs).weak fun σ H R ⟨Hs,δ,items,S,En,e,K⟩=>by
  unfold f8 at e
  cases ef:fa δ with
  | none=>rw [ef] at e;cases e
  | some rs=>
   rw [ef] at e
   refine ⟨Hs,δ,rs,S,En,ef,fun vs Hs1 H1 W1 R1=>?_⟩
   match rs,e,R1 with
   | [.sh (.int j)],e,⟨v,t,ev,q1,q2⟩=>
    have q2:t=[]:=q2
    have q1:Rep Hs1 (.int j) v:=q1
    unfold Rep at q1
    by_cases hj:-(2 ^ 62)≤j∧j<2 ^ 62
    ·
     simp only [Option.bind,if_pos hj] at e
     cases e
     exact ⟨j,by rw [ev,q1,q2],hj.1,hj.2,K _ Hs1 H1 W1 iu⟩
    ·
     simp only [Option.bind,if_neg hj] at e;cases e
theorem k5 {a b:Expr} {fa:DSt→Option (List R)} {p pos:Pos} (hg:Gl X "range") (hm:X.mg "range" = none) (ha:DA X [a,b] fa) (hs:starEach [a,b] X.env=[(false,eval a X.env),(false,eval b X.env)]:=by rfl)
  (hs2:starEach [b] X.env=[(false,eval b X.env)]:=by rfl):DI X tg (.Call (.Name "range" p) [a,b] [] pos) (kd fa):=.mk <|
 (pi_range2 hg hm ha.go hs hs2).weak fun σ H R ⟨Hs,δ,items,S,En,e,K⟩=>by
  unfold kd at e
  cases ef:fa δ with
  | none=>rw [ef] at e;cases e
  | some rs=>
   rw [ef] at e
   refine ⟨Hs,δ,rs,S,En,ef,fun vs Hs1 H1 W1 R1=>?_⟩
   match rs,e,R1 with
   | [.sh (.int i),.sh (.int j)],e,⟨v,t,ev,q1,⟨v2,t2,ev2,p1,p2⟩⟩=>
    have p2:t2=[]:=p2
    have q1:Rep Hs1 (.int i) v:=q1
    have p1:Rep Hs1 (.int j) v2:=p1
    unfold Rep at q1 p1
    by_cases hj:(-(2 ^ 62)≤i∧i<2 ^ 62)∧-(2 ^ 62)≤j∧j<2 ^ 62
    ·
     simp only [Option.bind,if_pos hj] at e
     cases e
     exact ⟨i,j,by rw [ev,ev2,q1,p1,p2],⟨hj.1.1,hj.1.2,hj.2.1,hj.2.2⟩,K _ Hs1 H1 W1 iu⟩
    ·
     simp only [Option.bind,if_neg hj] at e;cases e
end
def Res.loop (k:DSt→Option Res):Res→Option Res
 | .nx δ=>k δ
 | .ct δ=>k δ
 | .bk δ=>some (.nx δ)
 | .rt r=>some (.rt r)
 | .rn d=>some (.rn d)
def bC (g:GD) (body:FS):List D→DSt→Option Res
 | [],δ=>some (.nx δ)
 | d::r,δ=>(g d δ).bind fun δ1=>(body δ1).bind (Res.loop (bC g body r))
def bW (fi:DSt→Option (List D)) (g:GD) (body:FS):FS:=fun δ=>(fi δ).bind fun items=>bC g body items δ
theorem Wd.via {H0 Hs0 Hs1 H1 Hs H:Hp} (a:Wd H0 Hs0 Hs1 H1) (b:Wd H0 Hs1 Hs H):Wd H0 Hs0 Hs H:=
 ⟨b.keep,b.sub,a.base.trans b.base,fun c o e=>by
  rcases b.new c o e with q | q
  ·
   exact a.new c o q
  ·
   exact .inr q⟩
def cG (c:DSt→Option Bool) (body:FS):Nat→DSt→Option Res
 | 0,_=>none
 | n+1,δ=>(c δ).bind fun b=>if b=true then (body δ).bind (Res.loop (cG c body n)) else some (.nx δ)
section
variable {X:Cx} {tg iter:Expr} {body:List Stmt} {fi:DSt→Option (List D)} {ks:List Nat} {g:GD} {F:FS} {pos:Pos}
theorem ds_for (hp:PassesOwn (model X.prog X.w) X.A X.env X.xe) (hc:X.calm=true) (hi:DI X tg iter fi) (hg:DG X tg ks g) (hb:DSs X body F)
  (hs:∀ x,foldedSetIterable iter X.env x=pure x:=by intro _;rfl):DS X (.For tg iter body [] pos) (bW fi g F):=.mk fun H0 Hs0=>by
 have hb':PSs X body (fun D σ H=>∃ Hs1,tS H0 Hs1 F D σ H):=fun pins s σ H D I ⟨Hs1,h⟩=>hb.go H0 Hs1 pins s σ H D I h
 refine (ps_for hp hc hi.go hg.go hb' hs).weak fun D σ H ⟨Hs,δ,res,W,S,e,P⟩=>?_
 unfold bW at e
 cases ei:fi δ with
 | none=>rw [ei] at e;cases e
 | some items=>
  rw [ei] at e
  refine ⟨Hs,δ,items,W.sub,S.ent,ei,fun J Hs1 H1 W1 Y=>?_⟩
  have W01:=W.trans W1
  refine ⟨fun i m σ H=>m=items.length-i∧i≤items.length∧∃ Hs δ,Wd H0 Hs1 Hs H∧StR H0 Hs H δ σ∧bC g F (items.drop i) δ=some res,
   ⟨items.length,by simp,Nat.zero_le _,Hs1,δ,⟨W01.keep,W1.sub,.refl _,fun _ _ e=>.inl e⟩,S.mono W1,by simpa using e⟩,?_⟩
  rintro i m σ1 H2 ⟨rfl,hi.go,Hs2,δ1,W2,S2,e2⟩
  by_cases hlt:i<items.length
  ·
   have hd:items[i]?=some items[i]:=by simp [hlt]
   obtain ⟨go,yl⟩:=(Y i Hs2 H2 W2.base W2.sub).1 _ hd
   refine .inr ⟨go,fun σ' H'=>i+1≤items.length∧∃ Hs δ,Wd H0 Hs1 Hs H'∧StR H0 Hs H' δ σ'∧bC g F (items.drop (i+1)) δ=some res,fun σ' H' ⟨a,b⟩=>⟨_,by omega,rfl,a,b⟩,fun x H3 y=>?_⟩
   obtain ⟨Hs3,W3,rx⟩:=yl x H3 y
   have S3:=S2.mono W3
   rw [List.drop_eq_getElem_cons hlt] at e2
   unfold bC at e2
   cases eg:g items[i] δ1 with
   | none=>rw [eg] at e2;cases e2
   | some δ2=>
    rw [eg] at e2
    refine ⟨Hs3,δ1,items[i],δ2,W3.sub,S3.len,rx,eg,fun σ4 sr=>?_⟩
    replace e2:((F δ2).bind (Res.loop (bC g F (items.drop (i+1)))))=some res:=e2
    cases eF:F δ2 with
    | none=>rw [eF] at e2;cases e2
    | some r2=>
     rw [eF] at e2
     refine ⟨Hs1,Hs3,δ2,r2,W2.trans W3,sr.st S3,eF,?_⟩
     cases r2 with
     | nx δ3=>exact fun σ5 Hs5 H5 W5 S5=>⟨hlt,Hs5,δ3,W5,S5,e2⟩
     | ct δ3=>exact fun σ5 Hs5 H5 W5 S5=>⟨hlt,Hs5,δ3,W5,S5,e2⟩
     | bk δ3=>cases e2;exact fun σ5 Hs5 H5 W5 S5=>P σ5 Hs5 H5 (W01.via W5) S5
     | rt r=>cases e2;exact fun v Hs5 H5 W5 R5=>P v Hs5 H5 (W01.via W5) R5
     | rn d=>cases e2;exact fun v Hs5 H5 L W5 R5=>P v Hs5 H5 L (W01.via W5) R5
  ·
   have hi':i=items.length:=by omega
   subst hi'
   rw [List.drop_length] at e2
   cases e2
   exact .inl ⟨(Y _ Hs2 H2 W2.base W2.sub).2 (Nat.le_refl _),P σ1 Hs2 H2 (W01.via W2) S2⟩
theorem ds_while {c:Expr} {t:DSt→Option Bool} (n:Nat) (hp:PassesOwn (model X.prog X.w) X.A X.env X.xe) (hc:DT X c t) (hb:DSs X body F):DS X (.While c body [] pos) (cG t F n):=.mk fun H0 Hs0=>
 (ps_while hp hc.go (hb.go H0 Hs0)).weak fun D σ H ⟨Hs,δ,res,W,S,e,P⟩=>by
  refine ⟨fun m σ H=>∃ Hs δ,Wd H0 Hs0 Hs H∧StR H0 Hs H δ σ∧cG t F m δ=some res,⟨n,Hs,δ,W,S,e⟩,?_⟩
  rintro m σ1 H1 ⟨Hs1,δ1,W1,S1,e1⟩
  cases m with
  | zero=>cases e1
  | succ m=>
   unfold cG at e1
   cases et:t δ1 with
   | none=>rw [et] at e1;cases e1
   | some k=>
    rw [et] at e1
    refine ⟨Hs1,δ1,k,W1.sub,S1.ent,et,fun Hs2 H2 W2=>?_⟩
    cases k with
    | false=>cases e1;rw [if_neg Bool.false_ne_true];exact P σ1 Hs2 H2 (W1.trans W2) (S1.mono W2)
    | true=>
     rw [if_pos rfl]
     replace e1:((F δ1).bind (Res.loop (cG t F m)))=some res:=e1
     cases eF:F δ1 with
     | none=>rw [eF] at e1;cases e1
     | some r2=>
      rw [eF] at e1
      refine ⟨fun σ' H'=>∃ Hs δ,Wd H0 Hs0 Hs H'∧StR H0 Hs H' δ σ'∧cG t F m δ=some res,fun σ' H' h=>⟨m,Nat.lt_succ_self m,h⟩,Hs2,δ1,r2,W1.trans W2,S1.mono W2,eF,?_⟩
      cases r2 with
      | nx δ3=>exact fun σ5 Hs5 H5 W5 S5=>⟨Hs5,δ3,W5,S5,e1⟩
      | ct δ3=>exact fun σ5 Hs5 H5 W5 S5=>⟨Hs5,δ3,W5,S5,e1⟩
      | bk δ3=>cases e1;exact fun σ5 Hs5 H5 W5 S5=>P σ5 Hs5 H5 W5 S5
      | rt r=>cases e1;exact fun v Hs5 H5 W5 R5=>P v Hs5 H5 W5 R5
      | rn d=>cases e1;exact fun v Hs5 H5 L W5 R5=>P v Hs5 H5 L W5 R5
end
def dIn (m:Nat) (ix:List Nat) (δ:DSt):DSt:=List.replicate m none++ix.map fun i=>(δ[i]?).join
def cn (g:GD) (c:DSt→Option Bool) (fe:FE) (δ:DSt):List D→Option (List D)
 | []=>some []
 | d::r=>(g d δ).bind fun δ1=>(c δ1).bind fun b=>if b=true then (fe δ1).bind fun r1=>if r1.isBw=true then none else (cn g c fe δ r).bind fun t=>some (r1.view::t) else cn g c fe δ r
def bI (fi:DSt→Option (List D)) (g:GD) (c:DSt→Option Bool) (fe:FE) (m:Nat) (ix:List Nat):FE:=fun δ=>(fi δ).bind fun items=>if items.length≤big then (cn g c fe (dIn m ix δ) items).map .fr else none
theorem entIn {Hs H:Hp} {δ:DSt} {σ:St} (m:Nat) (ix:List Nat) (h:eZ Hs H δ σ):eZ Hs H (dIn m ix δ) (fG m ix σ):=fun j e q=>by
 unfold dIn at q
 unfold fG
 by_cases hj:j<m
 ·
  rw [List.getElem?_append_left (by simpa using hj),List.getElem?_replicate] at q
  split at q <;> cases q
 ·
  obtain ⟨k,rfl⟩ : ∃ k,j=m+k:=⟨j-m,by omega⟩
  rw [List.getElem?_append_right (by simp),List.length_replicate,Nat.add_sub_cancel_left,List.getElem?_map] at q ⊢
  cases hi:ix[k]? with
  | none=>rw [hi] at q;cases q
  | some i=>
   rw [hi] at q
   have q':(δ[i]?).join=some e:=by simpa using q
   have q'':δ[i]?=some (some e):=by
    cases z:δ[i]? with
    | none=>rw [z] at q';cases q'
    | some y=>rw [z] at q';simp at q';rw [q']
   obtain ⟨v,hv,hr⟩:=h i e q''
   exact ⟨v,by simp [hv],hr⟩
theorem dIn_own {m:Nat} {ix:List Nat} {δ:DSt} {j:Nat} {e:E} (h:(dIn m ix δ)[j]?=some (some e)):m≤j:=by
 rcases Nat.lt_or_ge j m with hj | hj
 ·
  unfold dIn at h
  rw [List.getElem?_append_left (by simpa using hj),List.getElem?_replicate] at h
  split at h <;> cases h
 ·
  exact hj
theorem tD_comp {fi:DSt→Option (List D)} {ks:List Nat} {g:GD} {c:DSt→Option Bool} {fe:FE} {m:Nat} {ix:List Nat} (hk:∀ j∈ks,j<m) {σ:St} {H:Hp} {Q:VK} (h:tD (bI fi g c fe m ix) σ H Q) :
  tComp (tI fi) (tG ks g) (tDT c) (tD fe) m ix σ H Q:=by
 obtain ⟨Hs,δ,r,S,En,e,K⟩:=h
 unfold bI at e
 cases ei:fi δ with
 | none=>rw [ei] at e;cases e
 | some items=>
  rw [ei] at e
  replace e:(if items.length≤big then (cn g c fe (dIn m ix δ) items).map R.fr else none)=some r:=e
  by_cases hbig:items.length≤big
  ·
   rw [if_pos hbig] at e
   cases em:cn g c fe (dIn m ix δ) items with
   | none=>rw [em] at e;cases e
   | some out=>
    rw [em] at e
    cases e
    refine ⟨Hs,δ,items,S,En,ei,fun J Hs1 H1 W1 Y A hA=>?_⟩
    have En1:eZ Hs1 H1 (dIn m ix δ) (fG m ix σ):=entIn m ix (En.mono W1)
    have len1:(fG m ix σ).length=(dIn m ix δ).length:=by unfold fG dIn;simp
    have hA1:Hs1 A=none:=W1.sub.free hA
    refine ⟨fun i n σ' H'=>n=items.length-i∧i≤items.length∧σ'.length=(dIn m ix δ).length∧(∀ j,m≤j→σ'[j]?=(fG m ix σ)[j]?)∧
     ∃ Hs' ds vs rest,Wd H1 Hs1 Hs' H'∧Hs' A=none∧H' A=some (.lst vs)∧ay Hs' ds vs∧ds.length≤i∧cn g c fe (dIn m ix δ) (items.drop i)=some rest∧out=ds++rest,?_,?_⟩
    ·
     refine ⟨items.length,by simp,Nat.zero_le _,len1,fun _ _=>rfl,Hs1,[],[],out,⟨.new hA,W1.sub.trans (.new hA),.refl _,fun _ _ e=>.inl e⟩,hA1,ax,.nil,Nat.zero_le _,by simpa using em,by simp⟩
    ·
     rintro i n σ1 H2 ⟨rfl,hi,hl1,hσ1,Hs2,ds,vs,rest,W2,hA2,hv2,r2,hd2,e2,eo⟩
     by_cases hlt:i<items.length
     ·
      have hd:items[i]?=some items[i]:=by simp [hlt]
      obtain ⟨go,yl⟩:=(Y i Hs2 H2 W2.base W2.sub).1 _ hd
      refine .inr ⟨go,fun σ' H'=>i+1≤items.length∧σ'.length=(dIn m ix δ).length∧(∀ j,m≤j→σ'[j]?=(fG m ix σ)[j]?)∧
       ∃ Hs' ds vs rest,Wd H1 Hs1 Hs' H'∧Hs' A=none∧H' A=some (.lst vs)∧ay Hs' ds vs∧ds.length≤i+1∧cn g c fe (dIn m ix δ) (items.drop (i+1))=some rest∧out=ds++rest,
       fun σ' H' ⟨a,b,c',d'⟩=>⟨_,by omega,rfl,a,b,c',d'⟩,fun x H3 y=>?_⟩
      obtain ⟨Hs3,W3,rx⟩:=yl x H3 y
      have W13:=W2.trans W3
      have A3:=W3.stay hv2 hA2
      have v3:=W3.keep _ _ hv2
      have En3:eZ Hs3 H3 (dIn m ix δ) σ1:=fun j en q=>by
       obtain ⟨v,hv,hr⟩:=(En1.mono W13) j en q
       exact ⟨v,by rw [hσ1 j (dIn_own q)];exact hv,hr⟩
      rw [List.drop_eq_getElem_cons hlt] at e2
      unfold cn at e2
      cases eg:g items[i] (dIn m ix δ) with
      | none=>rw [eg] at e2;cases e2
      | some δ2=>
       rw [eg] at e2
       refine ⟨Hs3,_,items[i],δ2,W3.sub,hl1,rx,eg,fun σ4 sr=>?_⟩
       have hl4:σ4.length=(dIn m ix δ).length:=by rw [sr.lenS];exact hl1
       have hσ4:∀ j,m≤j→σ4[j]?=(fG m ix σ)[j]?:=fun j hj=>by
        rw [(sr.out j fun z=>Nat.not_lt.mpr hj (hk j z)).2];exact hσ1 j hj
       have En4:eZ Hs3 H3 δ2 σ4:=sr.ent En3
       replace e2:((c δ2).bind fun b=>if b=true then (fe δ2).bind fun r1=>if r1.isBw=true then none else (cn g c fe (dIn m ix δ) (items.drop (i+1))).bind fun t=>some (r1.view::t) else cn g c fe (dIn m ix δ) (items.drop (i+1)))=some rest:=e2
       cases ec:c δ2 with
       | none=>rw [ec] at e2;cases e2
       | some b=>
        rw [ec] at e2
        refine ⟨Hs3,δ2,b,W3.sub,En4,ec,fun Hs5 H5 W5=>?_⟩
        have W15:=W13.trans W5
        have A5:=W5.stay v3 A3
        have v5:=W5.keep _ _ v3
        cases b with
        | false=>
         simp only [Bool.false_eq_true,if_false]
         exact ⟨hlt,hl4,hσ4,Hs5,ds,vs,rest,W15,A5,v5,ay.mono (W3.base.trans W5.base) _ r2,by omega,e2,eo⟩
        | true=>
         simp only [if_true]
         replace e2:((fe δ2).bind fun r1=>if r1.isBw=true then none else (cn g c fe (dIn m ix δ) (items.drop (i+1))).bind fun t=>some (r1.view::t))=some rest:=e2
         cases ef:fe δ2 with
         | none=>rw [ef] at e2;cases e2
         | some r1=>
          rw [ef] at e2
          replace e2:(if r1.isBw=true then none else (cn g c fe (dIn m ix δ) (items.drop (i+1))).bind fun t=>some (r1.view::t))=some rest:=e2
          by_cases hb:r1.isBw=true
          ·
           rw [if_pos hb] at e2;cases e2
          ·
           rw [if_neg hb] at e2
           cases er:cn g c fe (dIn m ix δ) (items.drop (i+1)) with
           | none=>rw [er] at e2;cases e2
           | some t=>
            rw [er] at e2
            cases e2
            refine ⟨Hs5,δ2,r1,W5.sub,En4.mono W5,ef,fun v Hs6 H6 W6 R6=>?_⟩
            obtain ⟨Hs7,q7,W7⟩:=R6.share W6 (fun ds z=>hb (by rw [z];rfl))
            have A7:=W7.stay v5 A5
            have v7:=W7.keep _ _ v5
            have W17:=W15.trans W7
            have nA:H1 A=none:=hA
            refine ⟨vs,v7,?_,hlt,hl4,hσ4,Hs7,ds++[r1.view],vs++[v],t,⟨fun b o q=>?_,fun b o q=>?_,W17.base,W17.new⟩,A7,ax,?_,by simp;omega,rfl,by rw [eo];simp⟩
            ·
             rw [r2.length];exact Nat.lt_of_le_of_lt hd2 (Nat.lt_trans hlt (bP hbig))
            ·
             rw [aA (aN q nA)];exact W17.keep _ _ q
            ·
             rw [aA (aN q A7)];exact W17.sub _ _ q
            ·
             exact ay.append (ay.mono (W3.base.trans (W5.base.trans W7.base)) _ r2) (.cons q7 .nil)
     ·
      have hi':i=items.length:=by omega
      subst hi'
      rw [List.drop_length] at e2
      cases e2
      refine .inl ⟨(Y _ Hs2 H2 W2.base W2.sub).2 (Nat.le_refl _),K _ Hs2 H2 (W1.trans W2) ⟨A,vs,rfl,W1.keep.free hA,hA2,hv2,?_⟩⟩
      rw [eo,List.append_nil]
      exact r2
  ·
   rw [if_neg hbig] at e;cases e
section
variable {X:Cx} {tg elt iter:Expr} {ifs:List Expr} {scope:Scope} {pos:Pos} {N:List Str} {m:Nat} {ix:List Nat} {ks:List Nat} {g:GD} {c:DSt→Option Bool} {fe:FE} {fi:DSt→Option (List D)}
structure DIfs (X:Cx) (ifs:List Expr) (c:DSt→Option Bool):Prop where
 go:PIfs X ifs (tDT c)
def eL:DSt→Option Bool:=fun _=>some true
theorem cH:DIfs X [] eL:=.mk <| fun pins s σ H Q I ⟨Hs,δ,b,S,En,e,K⟩=>by
 cases e
 exact pifs_nil pins s σ H Q I (K Hs H (.refl S))
theorem fq {e:Expr} (h:DT X e c):DIfs X [e] c:=.mk <| pifs_one h.go
theorem de_comp (hc:X.calm=true) (S:cU X N m ix scope) (hk:∀ j∈ks,j<m) (hi:DI X tg iter fi)
  (hin:∀ cl C s H fp,DG (bg X N scope cl C s H fp) tg ks g∧DIfs (bg X N scope cl C s H fp) ifs c∧DE (bg X N scope cl C s H fp) elt fe)
  (hs:∀ x,foldedSetIterable iter X.env x=pure x:=by intro _;rfl):DE X (.ListComp elt [⟨tg,iter,ifs,0⟩] scope pos) (bI fi g c fe m ix):=.mk <|
 (pe_comp hc S hi.go (fun cl C s H fp=>⟨(hin cl C s H fp).1.go,(hin cl C s H fp).2.1.go,(hin cl C s H fp).2.2.go⟩) hs).weak fun _ _ _=>tD_comp hk
theorem ds_comp {y:Str} {py spos:Pos} {iy:Nat} (hc:X.calm=true) (S:cU X N m ix scope) (hk:∀ j∈ks,j<m) (hi:DI X tg iter fi)
  (hin:∀ cl C s H fp,DG (bg X N scope cl C s H fp) tg ks g∧DIfs (bg X N scope cl C s H fp) ifs c∧DE (bg X N scope cl C s H fp) elt fe)
  (hN:X.N.Nodup) (hiy:X.N[iy]?=some y) (hy:Loc X.env.scope y)
  (hsw:swapsWith (.ListComp elt [⟨tg,iter,ifs,0⟩] scope pos) (some (.Name y py)) spos.line X.env=pure true:=by rfl)
  (hf:X.fn y=true∨X.env.scope.names.lookup y=some .local:=by first | exact .inl rfl | exact .inr rfl | assumption)
  (hs:∀ x,foldedSetIterable iter X.env x=pure x:=by intro _;rfl):DS X (.Assign [.Name y py] (.ListComp elt [⟨tg,iter,ifs,0⟩] scope pos) spos) (sset iy (bI fi g c fe m ix)):=.mk fun H0 Hs0=>
 (ps_comp hc S hi.go (fun cl C s H fp=>⟨(hin cl C s H fp).1.go,(hin cl C s H fp).2.1.go,(hin cl C s H fp).2.2.go⟩) hN hiy hy hsw hf hs).weak fun D σ H h=>tD_comp hk (ts_set h)
end
def run (k:Nat) (F:FS) (ds:List D):Option D:=match F (ds.map (fun d=>some (.sh d))++List.replicate (k-ds.length) none) with
 | some (.rt r)=>if r.isBw=true then none else some r.view
 | some (.nx _)=>some .non
 | some (.rn d)=>some d
 | _=>none
theorem mE {Hs H:Hp} {N:List Str} {ds:List D} {vs:List V} (r:ay Hs ds vs):StR H Hs H (ds.map (fun d=>some (E.sh d))++List.replicate (N.length-ds.length) none) (L2.start N vs):=by
 have get:∀ (i:Nat) (e:E),(ds.map (fun d=>some (E.sh d))++List.replicate (N.length-ds.length) none)[i]?=some (some e)→∃ d,ds[i]?=some d∧e=E.sh d:=fun i e h=>by
  by_cases hi:i<ds.length
  ·
   rw [List.getElem?_append_left (by simpa using hi),List.getElem?_map] at h
   cases q:ds[i]? with
   | none=>rw [q] at h;cases h
   | some d=>rw [q] at h;cases h;exact ⟨d,rfl,rfl⟩
  ·
   rw [List.getElem?_append_right (by simpa using hi),List.getElem?_replicate] at h
   split at h <;> cases h
 refine ⟨fun i e h=>?_,?_,fun i e v b h _ f=>?_,fun i j e e' v v' b _ h _ _ _ f=>?_⟩
 ·
  obtain ⟨d,hd,rfl⟩:=get i e h
  obtain ⟨v,hv,rv⟩:=r.get hd
  refine ⟨v,?_,rv⟩
  unfold L2.start
  have hi:i<vs.length:=(List.getElem?_eq_some_iff.mp hv).1
  rw [List.getElem?_append_left (by simpa using hi),List.getElem?_map,hv]
  rfl
 ·
  unfold L2.start
  simp [r.length]
 ·
  obtain ⟨d,_,z⟩:=get i _ h;rw [z] at f;cases f
 ·
  obtain ⟨d,_,z⟩:=get i _ h;rw [z] at f;cases f
section
variable {P:Program} {w:World} {K:PySem.W.Frag} {mg:Str→Option Value} {base:Heap}
theorem fn_D {x qual:Str} {st:Stmt} {f:Addr} {fd:FuncData} {N ps:List Str} {k:Nat} {F:FS} (F0:Fun K x qual st f fd) (S:dM N ps (ap st))
  (h:∀ (cdv:Value) (A:Around) (outer:List Env) (s:Shared) (H:Hp) (E:XK),bq k (A.deeper (PyProof.Rows.envOfC qual (ap st) s.heap.objs.size f cdv))→DSs (jJ CX0 P w K mg base N qual (ap st) f cdv A outer s H E).nox (aQ st) F) :
  dL P w K mg base CX0 (k+1) f fd ps (spD ps.length (run N.length F)):=by
 refine F0.ok S (fun vs H Q E hs=>spD_len hs) (fun cdv A outer s H vs Q E hr hs=>?_)
 obtain ⟨Hs,ds,d,hl,sub,r,em,post⟩:=hs
 refine ⟨_,(h cdv A outer s H E hr).go H Hs,?_⟩
 unfold run at em
 cases eF:F (ds.map (fun d=>some (.sh d))++List.replicate (N.length-ds.length) none) with
 | none=>rw [eF] at em;cases em
 | some res=>
  rw [eF] at em
  refine ⟨Hs,_,res,.refl sub,mE r,eF,?_⟩
  cases res with
  | nx δ=>
   cases em
   exact fun σ Hs1 H1 W1 _=>post .non Hs1 H1 W1 (by unfold Rep;rfl)
  | rt r1=>
   replace em:(if r1.isBw=true then none else some r1.view)=some d:=em
   by_cases hb:r1.isBw=true
   ·
    rw [if_pos hb] at em;cases em
   ·
    rw [if_neg hb] at em
    cases em
    intro v Hs1 H1 W1 R1
    obtain ⟨Hs2,q,W2⟩:=R1.share W1 (fun ds z=>hb (by rw [z];rfl))
    exact post v Hs2 H1 W2 q
  | bk δ=>cases em
  | ct δ=>cases em
  | rn d'=>
   cases em
   intro v Hs1 H1 L W1 O n
   obtain ⟨Hs2,q,s1,s2,s3⟩:=O.share W1.sub fun a ha=>(n a ha).2
   exact post v Hs2 H1 ⟨W1.keep,s1,W1.base.trans s2,fun a o e=>(s3 a o e).elim (W1.new a o) fun z=>.inr (n a z).1⟩ q
end
end Ew
end
section
set_option Elab.async false
set_option linter.all false
set_option maxRecDepth 100000
namespace Ew
open PySem PySem.Spec L2
mutual
def D.py:D→PyData
 | .non=>.none
 | .bl b=>.bool b
 | .int i=>.int i
 | .str x=>.str x
 | .lst xs=>.list (pys xs)
 | .tup xs=>.tuple (pys xs)
 | .obj _ _=>.none
def pys:List D→List PyData
 | []=>[]
 | x::xs=>D.py x::pys xs
end
mutual
def D.plain:D→Bool
 | .non=>true
 | .bl _=>true
 | .int _=>true
 | .str _=>true
 | .lst xs=>gu xs
 | .tup xs=>gu xs
 | .obj _ _=>false
def gu:List D→Bool
 | []=>true
 | x::xs=>D.plain x&&gu xs
end
section
variable {X:Cx} {pins:List (Addr×Obj)} {σ:St} {H Hs:Hp} {s:Shared}
mutual
theorem mG (I:L2.Inv X pins σ H s) (S:aH Hs H):∀ (d:D) {v:V} {u:Value},d.plain=true→Rep Hs d v→RelV v u→∃ as,Reads s.heap u d.py as
 | .non,v,u,_,h,r=>by unfold Rep at h;subst h;cases (show u=Value.none from r);unfold D.py;exact ⟨_,.none⟩
 | .bl b,v,u,_,h,r=>by unfold Rep at h;subst h;cases (show u=Value.bool b from r);unfold D.py;exact ⟨_,.bool b⟩
 | .int i,v,u,_,h,r=>by unfold Rep at h;subst h;obtain ⟨t,rfl⟩:=r;unfold D.py;exact ⟨_,.int i t⟩
 | .str x,v,u,_,h,r=>by unfold Rep at h;subst h;obtain ⟨t,rfl⟩:=r;unfold D.py;exact ⟨_,.str x t⟩
 | .lst ds,v,u,p,h,r=>by
  unfold Rep at h
  obtain ⟨a,vs,rfl,h1,h2⟩:=h
  cases (show u=Value.ref a from r)
  obtain ⟨z,its,n,rv,e⟩:=I.hok a _ (S _ _ h1)
  unfold D.plain at p
  obtain ⟨as,q⟩:=eO I S ds p h2 rv
  unfold D.py
  exact ⟨_,.list e rfl rfl (by simpa using q)⟩
 | .tup ds,v,u,p,h,r=>by
  unfold Rep at h
  obtain ⟨a,vs,rfl,h1,h2⟩:=h
  cases (show u=Value.ref a from r)
  obtain ⟨z,its,rv,o,e,c,n,hd⟩:=I.hok a _ (S _ _ h1)
  unfold D.plain at p
  obtain ⟨as,q⟩:=eO I S ds p h2 rv
  unfold D.py
  exact ⟨_,.tuple e c hd (by simpa using q)⟩
 | .obj _ _,v,u,p,h,r=>by unfold D.plain at p;cases p
theorem eO (I:L2.Inv X pins σ H s) (S:aH Hs H):∀ (ds:List D) {vs:List V} {us:List Value},gu ds=true→ay Hs ds vs→aK vs us→∃ as,ReadsAll s.heap us (pys ds) as
 | [],vs,us,_,h,r=>by unfold ay at h;subst h;cases r;unfold pys;exact ⟨_,.nil⟩
 | d::ds,vs,us,p,h,r=>by
  unfold ay at h
  obtain ⟨v,t,rfl,h1,h2⟩:=h
  unfold gu at p
  rw [Bool.and_eq_true] at p
  cases r with
  | cons r1 r2=>
   obtain ⟨as,q1⟩:=mG I S d p.1 h1 r1
   obtain ⟨bs,q2⟩:=eO I S ds p.2 h2 r2
   unfold pys
   exact ⟨_,.cons q1 q2⟩
end
theorem bi (I:L2.Inv X pins σ H s) (S:aH Hs H) (d:D) {v:V} {u:Value} (p:d.plain=true) (h:View Hs H d v) (r:RelV v u):∃ as,Reads s.heap u d.py as:=by
 rcases h with h | ⟨ds,a,vs,rfl,rfl,h1,h2⟩
 ·
  exact mG I S d p h r
 ·
  cases (show u=Value.ref a from r)
  obtain ⟨z,its,n,rv,e⟩:=I.hok a _ h1
  unfold D.plain at p
  obtain ⟨as,q⟩:=eO I S ds p h2 rv
  unfold D.py
  exact ⟨_,.list e rfl rfl (by simpa using q)⟩
end
def okD (d:D):Bool:=d.plain&&(d.py.canLay0&&decide (d.py.depth≤16))
theorem bF {d:D} (h:okD d=true):d.plain=true∧d.py.canLay0=true∧d.py.depth≤16:=by
 unfold okD at h
 rw [Bool.and_eq_true,Bool.and_eq_true] at h
 exact ⟨h.1,h.2.1,of_decide_eq_true h.2.2⟩
theorem gJ {d:D} (h:okD d=true):SeqAt.shaped d.py=true:=by
 obtain ⟨_,h1,h2⟩:=bF h
 unfold SeqAt.shaped
 rw [Bool.and_eq_true]
 exact ⟨h1,decide_eq_true (by omega)⟩
def eqP (a b:D):Bool:=PyData.eqv a.py b.py
def oEq (a b:D):Option R:=if okD a=true∧okD b=true then some (.sh (.bl (eqP a b))) else none
def oNe (a b:D):Option R:=if okD a=true∧okD b=true then some (.sh (.bl (!eqP a b))) else none
def oIn (x c:D):Option R:=match c with
 | .lst ys=>if okD x=true∧okD c=true then some (.sh (.bl (ys.any fun y=>eqP y x))) else none
 | .tup ys=>if okD x=true∧okD c=true then some (.sh (.bl (ys.any fun y=>eqP y x))) else none
 | _=>none
def oNotIn (x c:D):Option R:=match c with
 | .lst ys=>if okD x=true∧okD c=true then some (.sh (.bl (!ys.any fun y=>eqP y x))) else none
 | .tup ys=>if okD x=true∧okD c=true then some (.sh (.bl (!ys.any fun y=>eqP y x))) else none
 | _=>none
def be:D→D→Option R
 | .int i,.int j=>some (.sh (.int (i+j)))
 | .lst xs,.lst ys=>if xs.length+ys.length≤big then some (.fr (xs++ys)) else none
 | .str x,.str y=>if x.length+y.length≤big then some (.sh (.str (x++y))) else none
 | _,_=>none
def fJ:D→D→Option R
 | .int i,.int j=>some (.sh (.int (i-j)))
 | _,_=>none
def bX:D→D→Option R
 | .int i,.int j=>if (-(2 ^ 64)<i∧i<2 ^ 64)∨(-(2 ^ 64)<j∧j<2 ^ 64) then some (.sh (.int (i*j))) else none
 | .lst xs,.int k=>if k≤1000∧-1000≤k∧xs.length*k.toNat≤big then some (.fr (List.replicate k.toNat xs).flatten) else none
 | _,_=>none
def oMod:D→D→Option R
 | .int i,.int j=>if 0<j then some (.sh (.int (i % j))) else none
 | _,_=>none
def oLt:D→D→Option R
 | .int i,.int j=>some (.sh (.bl (decide (i<j))))
 | _,_=>none
def oLe:D→D→Option R
 | .int i,.int j=>some (.sh (.bl (decide (i≤j))))
 | _,_=>none
def oGt:D→D→Option R
 | .int i,.int j=>some (.sh (.bl (decide (j<i))))
 | _,_=>none
def oGe:D→D→Option R
 | .int i,.int j=>some (.sh (.bl (decide (j≤i))))
 | _,_=>none
def oIx:D→D→Option R
 | .lst xs,.int i=>(atI xs i).map .sh
 | .tup xs,.int i=>(atI xs i).map .sh
 | _,_=>none
def eM:D→Option R
 | .lst xs=>some (.sh (.int xs.length))
 | .tup xs=>some (.sh (.int xs.length))
 | .str x=>if x.length≤big then some (.sh (.int x.length)) else none
 | _=>none
def k6:D→Option R
 | .lst xs=>some (.fr xs)
 | .tup xs=>some (.fr xs)
 | _=>none
def ft:D→D→Option R
 | .int i,.int j=>some (.sh (.int (if j<i then j else i)))
 | _,_=>none
def gV:D→D→Option R
 | .int i,.int j=>some (.sh (.int (if j>i then j else i)))
 | _,_=>none
theorem fK:∀ ds:List D,pys ds=ds.map D.py
 | []=>by unfold pys;rfl
 | d::ds=>by unfold pys;rw [fK ds];rfl
section
variable {X:Cx}
theorem op_oEq (hu:X.A.units+64<cLine):OpR X (compareOp .Eq) (rD oEq):=by
 intro pins s σ H x y v u Q I rx ry h
 obtain ⟨Hs,a,b,r,S,va,vb,e,K⟩:=h
 unfold oEq at e
 by_cases hc:okD a=true∧okD b=true
 ·
  rw [if_pos hc] at e
  cases e
  obtain ⟨as,ra⟩:=bi I S a (bF hc.1).1 va rx
  obtain ⟨bs,rb⟩:=bi I S b (bF hc.2).1 vb ry
  exact SeqAt.compareEq_shaped ra rb (gJ hc.1) (gJ hc.2) hu ⟨.bl _,H,I,rfl,K _ Hs H (.refl S) (shB _ _ _ _)⟩
 ·
  rw [if_neg hc] at e;cases e
theorem op_oNe (hu:X.A.units+64<cLine):OpR X (compareOp .NotEq) (rD oNe):=by
 intro pins s σ H x y v u Q I rx ry h
 obtain ⟨Hs,a,b,r,S,va,vb,e,K⟩:=h
 unfold oNe at e
 by_cases hc:okD a=true∧okD b=true
 ·
  rw [if_pos hc] at e
  cases e
  obtain ⟨as,ra⟩:=bi I S a (bF hc.1).1 va rx
  obtain ⟨bs,rb⟩:=bi I S b (bF hc.2).1 vb ry
  exact SeqAt.compareNe_shaped ra rb (gJ hc.1) (gJ hc.2) hu ⟨.bl _,H,I,rfl,K _ Hs H (.refl S) (shB _ _ _ _)⟩
 ·
  rw [if_neg hc] at e;cases e
theorem iv {ys:List D} (h:okD (.lst ys)=true):PyData.canLayAll0 (pys ys)=true∧PyData.depthAll (pys ys)≤16:=by
 obtain ⟨_,h1,h2⟩:=bF h
 unfold D.py at h1 h2
 unfold PyData.canLay0 at h1
 unfold PyData.depth at h2
 exact ⟨h1,by omega⟩
theorem jV {ys:List D} (h:okD (.tup ys)=true):PyData.canLayAll0 (pys ys)=true∧PyData.depthAll (pys ys)≤16:=by
 obtain ⟨_,h1,h2⟩:=bF h
 unfold D.py at h1 h2
 unfold PyData.canLay0 at h1
 unfold PyData.depth at h2
 exact ⟨h1,by omega⟩
theorem jW (x:D) (ys:List D):((pys ys).any fun y=>PyData.eqv y x.py)=ys.any fun y=>eqP y x:=by
 rw [fK,List.any_map];rfl
theorem op_oIn (hu:X.A.units+64<cLine):OpR X (compareOp .In) (rD oIn):=by
 intro pins s σ H x y v u Q I rx ry h
 obtain ⟨Hs,a,b,r,S,va,vb,e,K⟩:=h
 have room:∀ ys:List PyData,PyData.depthAll ys≤16→X.A.units+1+min (PyData.depthAll ys) a.py.depth<cLine:=fun ys hy=>by
  have:min (PyData.depthAll ys) a.py.depth≤PyData.depthAll ys:=Nat.min_le_left _ _
  omega
 cases b with
 | lst ys=>
  unfold oIn at e
  by_cases hc:okD a=true∧okD (.lst ys)=true
  ·
   simp only [if_pos hc] at e
   cases e
   obtain ⟨as,ra⟩:=bi I S a (bF hc.1).1 va rx
   obtain ⟨bs,rb⟩:=bi I S _ (bF hc.2).1 vb ry
   unfold D.py at rb
   refine SeqAt.in_list_reads rb ra (iv hc.2).1 (bF hc.1).2.1 (room _ (iv hc.2).2) ⟨.bl _,H,I,rfl,?_⟩
   rw [jW]
   exact K _ Hs H (.refl S) (shB _ _ _ _)
  ·
   simp only [if_neg hc] at e;cases e
 | tup ys=>
  unfold oIn at e
  by_cases hc:okD a=true∧okD (.tup ys)=true
  ·
   simp only [if_pos hc] at e
   cases e
   obtain ⟨as,ra⟩:=bi I S a (bF hc.1).1 va rx
   obtain ⟨bs,rb⟩:=bi I S _ (bF hc.2).1 vb ry
   unfold D.py at rb
   refine SeqAt.in_tuple_reads rb ra (jV hc.2).1 (bF hc.1).2.1 (room _ (jV hc.2).2) ⟨.bl _,H,I,rfl,?_⟩
   rw [jW]
   exact K _ Hs H (.refl S) (shB _ _ _ _)
  ·
   simp only [if_neg hc] at e;cases e
 | _=>cases e
theorem op_oNotIn (hu:X.A.units+64<cLine):OpR X (compareOp .NotIn) (rD oNotIn):=by
 intro pins s σ H x y v u Q I rx ry h
 obtain ⟨Hs,a,b,r,S,va,vb,e,K⟩:=h
 have room:∀ ys:List PyData,PyData.depthAll ys≤16→X.A.units+1+min (PyData.depthAll ys) a.py.depth<cLine:=fun ys hy=>by
  have:min (PyData.depthAll ys) a.py.depth≤PyData.depthAll ys:=Nat.min_le_left _ _
  omega
 cases b with
 | lst ys=>
  unfold oNotIn at e
  by_cases hc:okD a=true∧okD (.lst ys)=true
  ·
   simp only [if_pos hc] at e
   cases e
   obtain ⟨as,ra⟩:=bi I S a (bF hc.1).1 va rx
   obtain ⟨bs,rb⟩:=bi I S _ (bF hc.2).1 vb ry
   unfold D.py at rb
   refine SeqAt.notIn_list_reads rb ra (iv hc.2).1 (bF hc.1).2.1 (room _ (iv hc.2).2) ⟨.bl _,H,I,rfl,?_⟩
   rw [jW]
   exact K _ Hs H (.refl S) (shB _ _ _ _)
  ·
   simp only [if_neg hc] at e;cases e
 | tup ys=>
  unfold oNotIn at e
  by_cases hc:okD a=true∧okD (.tup ys)=true
  ·
   simp only [if_pos hc] at e
   cases e
   obtain ⟨as,ra⟩:=bi I S a (bF hc.1).1 va rx
   obtain ⟨bs,rb⟩:=bi I S _ (bF hc.2).1 vb ry
   unfold D.py at rb
   refine SeqAt.notIn_tuple_reads rb ra (jV hc.2).1 (bF hc.1).2.1 (room _ (jV hc.2).2) ⟨.bl _,H,I,rfl,?_⟩
   rw [jW]
   exact K _ Hs H (.refl S) (shB _ _ _ _)
  ·
   simp only [if_neg hc] at e;cases e
 | _=>cases e
theorem a9:OpR X (binaryOp .Add) (rD be):=by
 intro pins s σ H x y v u Q I rx ry h
 obtain ⟨Hs,a,b,r,S,va,vb,e,K⟩:=h
 match a,b,e,va,vb with
 | .int i,.int j,e,va,vb=>
  cases e
  exact op_add pins s σ H x y v u Q I rx ry ⟨i,j,va.int,vb.int,K _ Hs H (.refl S) (shI _ _ _ _)⟩
 | .lst xs,.lst ys,e,va,vb=>
  by_cases hc:xs.length+ys.length≤big
  ·
   simp only [be,if_pos hc] at e
   cases e
   obtain ⟨a,vs,ea,h1,h2⟩:=va.lst S
   obtain ⟨b,us,eb,h3,h4⟩:=vb.lst S
   refine op_cat pins s σ H x y v u Q I rx ry ⟨a,b,vs,us,ea,eb,h1,h3,?_,fun p hp=>?_⟩
   ·
    rw [h2.length,h4.length];exact Nat.le_of_lt (bP hc)
   ·
    exact K (.ref p) Hs _ (.fresh S hp) ⟨p,_,rfl,hp,S.free hp,ax,h2.append h4⟩
  ·
   simp only [be,if_neg hc] at e;cases e
 | .str i,.str j,e,va,vb=>
  by_cases hc:i.length+j.length≤big
  ·
   simp only [be,if_pos hc] at e
   cases e
   exact nN pins s σ H x y v u Q I rx ry ⟨i,j,va.str,vb.str,Nat.le_of_lt (bP hc),K _ Hs H (.refl S) (shS _ _ _ _)⟩
  ·
   simp only [be,if_neg hc] at e;cases e
theorem gK:OpR X (binaryOp .Sub) (rD fJ):=by
 intro pins s σ H x y v u Q I rx ry h
 obtain ⟨Hs,a,b,r,S,va,vb,e,K⟩:=h
 match a,b,e,va,vb with
 | .int i,.int j,e,va,vb=>
  cases e
  exact op_sub pins s σ H x y v u Q I rx ry ⟨i,j,va.int,vb.int,K _ Hs H (.refl S) (shI _ _ _ _)⟩
theorem fM:OpR X (binaryOp .Mod) (rD oMod):=by
 intro pins s σ H x y v u Q I rx ry h
 obtain ⟨Hs,a,b,r,S,va,vb,e,K⟩:=h
 match a,b,e,va,vb with
 | .int i,.int j,e,va,vb=>
  by_cases hc:0<j
  ·
   simp only [oMod,if_pos hc] at e
   cases e
   exact op_mod pins s σ H x y v u Q I rx ry ⟨i,j,va.int,vb.int,hc,K _ Hs H (.refl S) (shI _ _ _ _)⟩
  ·
   simp only [oMod,if_neg hc] at e;cases e
theorem dP:OpR X (binaryOp .Mult) (rD bX):=by
 intro pins s σ H x y v u Q I rx ry h
 obtain ⟨Hs,a,b,r,S,va,vb,e,K⟩:=h
 match a,b,e,va,vb with
 | .int i,.int j,e,va,vb=>
  by_cases hc:(-(2 ^ 64)<i∧i<2 ^ 64)∨(-(2 ^ 64)<j∧j<2 ^ 64)
  ·
   simp only [bX,if_pos hc] at e
   cases e
   exact op_mul pins s σ H x y v u Q I rx ry ⟨i,j,va.int,vb.int,hc,K _ Hs H (.refl S) (shI _ _ _ _)⟩
  ·
   simp only [bX,if_neg hc] at e;cases e
 | .lst xs,.int k,e,va,vb=>
  by_cases hc:k≤1000∧-1000≤k∧xs.length*k.toNat≤big
  ·
   simp only [bX,if_pos hc] at e
   cases e
   obtain ⟨a,vs,ea,h1,h2⟩:=va.lst S
   have rr:∀ n:Nat,ay Hs (List.replicate n xs).flatten (List.replicate n vs).flatten:=fun n=>by
    induction n with
    | zero=>exact .nil
    | succ n ih=>rw [List.replicate_succ,List.replicate_succ,List.flatten_cons,List.flatten_cons];exact h2.append ih
   refine op_rep pins s σ H x y v u Q I rx ry ⟨a,k,vs,ea,vb.int,h1,by omega,by omega,?_,fun p hp=>?_⟩
   ·
    rw [h2.length];exact Nat.le_of_lt (bP hc.2.2)
   ·
    exact K (.ref p) Hs _ (.fresh S hp) ⟨p,_,rfl,hp,S.free hp,ax,rr _⟩
  ·
   simp only [bX,if_neg hc] at e;cases e
theorem dA:OpR X (compareOp .Lt) (rD oLt):=by
 intro pins s σ H x y v u Q I rx ry h
 obtain ⟨Hs,a,b,r,S,va,vb,e,K⟩:=h
 match a,b,e,va,vb with
 | .int i,.int j,e,va,vb=>cases e;exact op_lt pins s σ H x y v u Q I rx ry ⟨i,j,va.int,vb.int,K _ Hs H (.refl S) (shB _ _ _ _)⟩
theorem ke:OpR X (compareOp .LtE) (rD oLe):=by
 intro pins s σ H x y v u Q I rx ry h
 obtain ⟨Hs,a,b,r,S,va,vb,e,K⟩:=h
 match a,b,e,va,vb with
 | .int i,.int j,e,va,vb=>cases e;exact op_le pins s σ H x y v u Q I rx ry ⟨i,j,va.int,vb.int,K _ Hs H (.refl S) (shB _ _ _ _)⟩
theorem hV:OpR X (compareOp .Gt) (rD oGt):=by
 intro pins s σ H x y v u Q I rx ry h
 obtain ⟨Hs,a,b,r,S,va,vb,e,K⟩:=h
 match a,b,e,va,vb with
 | .int i,.int j,e,va,vb=>cases e;exact op_gt pins s σ H x y v u Q I rx ry ⟨i,j,va.int,vb.int,K _ Hs H (.refl S) (shB _ _ _ _)⟩
theorem mH {H:Hp} {ds:List D} {vs:List V} {i:Int} {d:D} (r:ay H ds vs) (h:atI ds i=some d):∃ v,atI vs i=some v∧Rep H d v:=by
 unfold atI at h ⊢
 rw [r.length]
 cases e:ixN ds.length i with
 | none=>rw [e] at h;cases h
 | some j=>
  rw [e] at h
  exact r.get h
theorem ix_oIx:IxR X (rD oIx):=by
 intro value slice pins s σ H x y v u Q I rx ry h hs
 obtain ⟨Hs,a,b,r,S,va,vb,e,K⟩:=h
 match a,b,e,va,vb with
 | .lst xs,.int i,e,va,vb=>
  cases ea:atI xs i with
  | none=>simp only [oIx,ea] at e;cases e
  | some d=>
   simp only [oIx,ea] at e
   cases e
   obtain ⟨a,vs,eq,h1,h2⟩:=va.lst S
   obtain ⟨w,q1,q2⟩:=mH h2 ea
   exact ix_list value slice pins s σ H x y v u Q I rx ry ⟨a,vs,i,w,eq,vb.int,.of h1,q1,K w Hs H (.refl S) q2⟩ hs
 | .tup xs,.int i,e,va,vb=>
  cases ea:atI xs i with
  | none=>simp only [oIx,ea] at e;cases e
  | some d=>
   simp only [oIx,ea] at e
   cases e
   obtain ⟨a,vs,eq,h1,h2⟩:=va.tup S
   obtain ⟨w,q1,q2⟩:=mH h2 ea
   exact ix_tup value slice pins s σ H x y v u Q I rx ry ⟨a,vs,i,w,eq,vb.int,.of h1,q1,K w Hs H (.refl S) q2⟩ hs
theorem c_len:ca X (.builtin "len") (rC1 eM):=by
 intro pins s σ H xs us Q I rv h
 obtain ⟨x,rfl,Hs,d,r,S,vd,e,K⟩:=h
 match d,e,vd with
 | .lst ds,e,vd=>
  cases e
  obtain ⟨a,vs,eq,h1,h2⟩:=vd.lst S
  exact fF pins s σ H _ us Q I rv ⟨a,vs,by rw [eq],.inl (.of h1),by rw [h2.length];exact K _ Hs H (.refl S) (shI _ _ _ _)⟩
 | .tup ds,e,vd=>
  cases e
  obtain ⟨a,vs,eq,h1,h2⟩:=vd.tup S
  exact fF pins s σ H _ us Q I rv ⟨a,vs,by rw [eq],.inr (.of h1),by rw [h2.length];exact K _ Hs H (.refl S) (shI _ _ _ _)⟩
 | .str z,e,vd=>
  by_cases hc:z.length≤big
  ·
   simp only [eM,if_pos hc] at e
   cases e
   exact lz pins s σ H _ us Q I rv ⟨z,by rw [vd.str],Nat.le_of_lt (bP hc),K _ Hs H (.refl S) (shI _ _ _ _)⟩
  ·
   simp only [eM,if_neg hc] at e;cases e
theorem c_list:ca X (.type "list") (rC1 k6):=by
 intro pins s σ H xs us Q I rv h
 obtain ⟨x,rfl,Hs,d,r,S,vd,e,K⟩:=h
 match d,e,vd with
 | .lst ds,e,vd=>
  cases e
  obtain ⟨a,vs,eq,h1,h2⟩:=vd.lst S
  exact ik pins s σ H _ us Q I rv ⟨a,vs,by rw [eq],.inl (.of h1),fun p hp=>K _ Hs _ (.fresh S hp) ⟨p,vs,rfl,hp,S.free hp,ax,h2⟩⟩
 | .tup ds,e,vd=>
  cases e
  obtain ⟨a,vs,eq,h1,h2⟩:=vd.tup S
  exact ik pins s σ H _ us Q I rv ⟨a,vs,by rw [eq],.inr (.of h1),fun p hp=>K _ Hs _ (.fresh S hp) ⟨p,vs,rfl,hp,S.free hp,ax,h2⟩⟩
theorem lH (hc:X.calm=true):ca X (.builtin "min") (rC2 ft):=by
 intro pins s σ H xs us Q I rv h
 obtain ⟨x,y,rfl,Hs,a,b,r,S,va,vb,e,K⟩:=h
 match a,b,e,va,vb with
 | .int i,.int j,e,va,vb=>
  cases e
  exact call_min2 hc pins s σ H _ us Q I rv ⟨i,j,by rw [va.int,vb.int],K _ Hs H (.refl S) (shI _ _ _ _)⟩
theorem c_max2 (hc:X.calm=true):ca X (.builtin "max") (rC2 gV):=by
 intro pins s σ H xs us Q I rv h
 obtain ⟨x,y,rfl,Hs,a,b,r,S,va,vb,e,K⟩:=h
 match a,b,e,va,vb with
 | .int i,.int j,e,va,vb=>
  cases e
  exact call_max2 hc pins s σ H _ us Q I rv ⟨i,j,by rw [va.int,vb.int],K _ Hs H (.refl S) (shI _ _ _ _)⟩
end
end Ew
end
section
set_option Elab.async false
set_option linter.all false
set_option maxRecDepth 100000
namespace Ew
open PySem PySem.Spec L2
def kf (sc:Scope) (No N:List Str) (m:Nat) (ix:List Nat) (scope:Scope):Bool:=
 scope.kind==.function&&scope.names.all (fun y=>!(y.2==.cell))&&scope.names.all (fun y=>!(y.2==.local)||scope.names.lookup y.1==some .local)&&N.length==m+ix.length&&
 scope.names.all (fun y=>!(y.2==.free)||(sc.names.lookup y.1==some .cell||sc.names.lookup y.1==some .free))&&
 (List.range ix.length).all fun j=>match ix[j]?,N[m+j]? with
  | some i,some x=>No[i]?==some x&&scope.names.lookup x==some .free
  | _,_=>false
theorem i8 {X:Cx} {sc:Scope} {No N:List Str} {m:Nat} {ix:List Nat} {scope:Scope} (h1:X.env.scope=sc) (h2:X.N=No) (h:kf sc No N m ix scope=true):cU X N m ix scope:=by
 unfold kf at h
 simp only [Bool.and_eq_true] at h
 obtain ⟨⟨⟨⟨⟨a,b⟩,c⟩,d⟩,e⟩,f⟩:=h
 refine ⟨by simpa using a,fun y hy z=>?_,fun y hy z=>?_,by simpa using d,fun y hy z=>?_,fun j i x hi hx=>?_⟩
 ·
  have:=List.all_eq_true.mp b y hy
  simp [z] at this
 ·
  have:=List.all_eq_true.mp c y hy
  simpa [z] using this
 ·
  have:=List.all_eq_true.mp e y hy
  show X.env.scope.names.lookup y.1=_∨X.env.scope.names.lookup y.1=_
  rw [h1]
  simpa [z] using this
 ·
  have hj:j<ix.length:=(List.getElem?_eq_some_iff.mp hi).1
  have:=List.all_eq_true.mp f j (List.mem_range.mpr hj)
  rw [hi,hx] at this
  simp only [Bool.and_eq_true] at this
  rw [h2]
  exact ⟨by simpa using this.1,by simpa using this.2⟩
theorem hu64 {A:Around} {k:Nat} (hr:bq k A):A.units+64<cLine:=by have:=hr.un;omega
section
variable {X:Cx}
theorem af {i:Int} {j:Nat} {pos:Pos}:DE X (.Constant (.int i) j pos) (ac (.int i)):=lC pe_int fun H=>by unfold Rep;rfl
theorem cb {b:Bool} {j:Nat} {pos:Pos}:DE X (.Constant (.bool b) j pos) (ac (.bl b)):=lC pe_bl fun H=>by unfold Rep;rfl
theorem de_non {j:Nat} {pos:Pos}:DE X (.Constant .none j pos) (ac .non):=lC pe_non fun H=>by unfold Rep;rfl
def bls:List D→Option (List Bool)
 | []=>some []
 | .bl b::r=>(bls r).map (b::·)
 | _=>none
theorem lI {H:Hp}:∀ {ds:List D} {bs:List Bool} {vs:List V} {us:List Value},bls ds=some bs→ay H ds vs→aK vs us→PyProof.Rows.LSm.BoolsAre us bs
 | [],bs,vs,us,e,r,q=>by
  unfold bls at e;cases e
  unfold ay at r;subst r
  cases q
  exact .nil
 | d::ds,bs,vs,us,e,r,q=>by
  match d,e with
  | .bl b,e=>
   unfold bls at e
   cases eb:bls ds with
   | none=>rw [eb] at e;cases e
   | some t=>
    rw [eb] at e;cases e
    unfold ay at r
    obtain ⟨v,vr,rfl,r1,r2⟩:=r
    unfold Rep at r1
    subst r1
    cases q with
    | cons q1 q2=>
     cases q1
     exact .cons b (lI eb r2 q2)
def i9:D→Option R
 | .lst ds=>(bls ds).map fun bs=>.sh (.bl (bs.all id))
 | _=>none
def oAny:D→Option R
 | .lst ds=>(bls ds).map fun bs=>.sh (.bl (bs.any id))
 | _=>none
theorem kept_it {s:Shared} {h':Heap} {o:Obj} (hk:∀ b x,b∉[s.heap.objs.size]→(s.heap.push o).get? b=some x→h'.get? b=some x):∀ b x,s.heap.get? b=some x→h'.get? b=some x:=
 fun b x e=>hk b x (fun hm=>by rw [List.mem_singleton.mp hm] at e;exact Nat.lt_irrefl _ (Heap.lt_size e)) (Heap.get?_push_of_some _ e)
theorem c_all (hc:X.calm=true):ca X (.builtin "all") (rC1 i9):=by
 intro pins s σ H xs us Q I rv h
 obtain ⟨x,rfl,Hs,d,r,S,vd,e,K⟩:=h
 match d,e,vd with
 | .lst ds,e,vd=>
  cases eb:bls ds with
  | none=>simp only [i9,eb] at e;cases e
  | some bs=>
   simp only [i9,eb] at e;cases e
   obtain ⟨a,vs,eq,h1,h2⟩:=vd.lst S
   subst eq
   obtain ⟨u,rfl,ru⟩:=rv.one
   cases (show u=Value.ref a from ru)
   obtain ⟨its,rw',pl,hz⟩:=I.list (SqL.of (K:=X.K) h1)
   have hb:=lI eb h2 rw'
   have hl:=pl.isList
   have hh:X.A.handled=none:=I.ok.hd hc
   have hlt:a<s.heap.objs.size:=by obtain ⟨_,e,_⟩:=hl;exact Heap.lt_size e
   refine call_all_walk (wpAny_pyIter_list hl ?_)
   refine ⟨s.heap.objs.size,[s.heap.objs.size,a],[s.heap.objs.size],its.toArray.size,_,_,fun i=>(bs[i]?).getD true,rfl,Walks.list (A:=X.A.in1) hh _ a (Nat.ne_of_lt hlt) its.toArray,
    ⟨⟨_,Heap.get?_push_size _ rfl,rfl,rfl⟩,hl.push _⟩,fun i v s' Q' E' hP hQ=>?_,fun h' tk hk=>?_⟩
   ·
    obtain ⟨b,e,rfl⟩:=hb.get i v (by simpa using hP)
    simp only [e,Option.getD_some] at hQ
    exact wpAny_truthy_bool hQ
   ·
    have e:((List.range its.toArray.size).all fun i=>(bs[i]?).getD true)=bs.all id:=by
     rw [List.size_toArray,hb.length];exact PyProof.Rows.LSm.range_all bs
    rw [e]
    exact ⟨.bl _,H,I.kept (kept_it hk),rfl,K _ Hs H (.refl S) (shB _ _ _ _)⟩
theorem c_any (hc:X.calm=true):ca X (.builtin "any") (rC1 oAny):=by
 intro pins s σ H xs us Q I rv h
 obtain ⟨x,rfl,Hs,d,r,S,vd,e,K⟩:=h
 match d,e,vd with
 | .lst ds,e,vd=>
  cases eb:bls ds with
  | none=>simp only [oAny,eb] at e;cases e
  | some bs=>
   simp only [oAny,eb] at e;cases e
   obtain ⟨a,vs,eq,h1,h2⟩:=vd.lst S
   subst eq
   obtain ⟨u,rfl,ru⟩:=rv.one
   cases (show u=Value.ref a from ru)
   obtain ⟨its,rw',pl,hz⟩:=I.list (SqL.of (K:=X.K) h1)
   have hb:=lI eb h2 rw'
   have hl:=pl.isList
   have hh:X.A.handled=none:=I.ok.hd hc
   have hlt:a<s.heap.objs.size:=by obtain ⟨_,e,_⟩:=hl;exact Heap.lt_size e
   refine call_any_walk (wpAny_pyIter_list hl ?_)
   refine ⟨s.heap.objs.size,[s.heap.objs.size,a],[s.heap.objs.size],its.toArray.size,_,_,fun i=>(bs[i]?).getD false,rfl,Walks.list (A:=X.A.in1) hh _ a (Nat.ne_of_lt hlt) its.toArray,
    ⟨⟨_,Heap.get?_push_size _ rfl,rfl,rfl⟩,hl.push _⟩,fun i v s' Q' E' hP hQ=>?_,fun h' tk hk=>?_⟩
   ·
    obtain ⟨b,e,rfl⟩:=hb.get i v (by simpa using hP)
    simp only [e,Option.getD_some] at hQ
    exact wpAny_truthy_bool hQ
   ·
    have e:((List.range its.toArray.size).any fun i=>(bs[i]?).getD false)=bs.any id:=by
     rw [List.size_toArray,hb.length];exact PyProof.Rows.LSm.range_any bs
    rw [e]
    exact ⟨.bl _,H,I.kept (kept_it hk),rfl,K _ Hs H (.refl S) (shB _ _ _ _)⟩
def nums:List D→Option (List Int)
 | []=>some []
 | .int i::r=>(nums r).map (i::·)
 | _=>none
theorem fu {H:Hp}:∀ {ds:List D} {ns:List Int} {vs:List V} {us:List Value},nums ds=some ns→ay H ds vs→aK vs us→PyProof.Rows.IntsAre us ns
 | [],bs,vs,us,e,r,q=>by
  unfold nums at e;cases e
  unfold ay at r;subst r
  cases q
  exact .nil
 | d::ds,bs,vs,us,e,r,q=>by
  match d,e with
  | .int b,e=>
   unfold nums at e
   cases eb:nums ds with
   | none=>rw [eb] at e;cases e
   | some t=>
    rw [eb] at e;cases e
    unfold ay at r
    obtain ⟨v,vr,rfl,r1,r2⟩:=r
    unfold Rep at r1
    subst r1
    cases q with
    | cons q1 q2=>
     obtain ⟨t,rfl⟩:=q1
     exact .cons b t (fu eb r2 q2)
theorem k7 {H:Hp}:∀ {ns:List Int} {us:List Value},PyProof.Rows.IntsAre us ns→aK (ns.map V.int) us∧ay H (ns.map D.int) (ns.map V.int)
 | _,_,.nil=>⟨.nil,.nil⟩
 | _,_,.cons n t h=>by
  obtain ⟨a,b⟩:=k7 (H:=H) h
  exact ⟨.cons ⟨t,rfl⟩ a,.cons (by unfold Rep;rfl) b⟩
def best (p:Int→Int→Bool):List Int→Option Int
 | []=>none
 | a::r=>some (r.foldl (fun m x=>if p x m then x else m) a)
theorem mI:∀ {ns:List Int} {m:Int},m∈ns→(∀ a,a∈ns→a≤m)→best (fun x m=>decide (m<x)) ns=some m:=by
 have go:∀ (r:List Int) (a m:Int),(m=a∨m∈r)→a≤m→(∀ x∈r,x≤m)→r.foldl (fun m x=>if decide (m<x) then x else m) a=m:=by
  intro r
  induction r with
  | nil=>intro a m h _ _;rcases h with h | h;exact h.symm;cases h
  | cons y r ih=>
   intro a m h ha hx
   rw [List.foldl_cons]
   by_cases hy:a<y
   ·
    simp only [hy,decide_true,if_true]
    refine ih y m ?_ (hx y List.mem_cons_self) fun x hx'=>hx x (List.mem_cons_of_mem _ hx')
    rcases h with h | h
    ·
     have:=hx y List.mem_cons_self;omega
    ·
     rcases List.mem_cons.mp h with h | h
     ·
      exact .inl h
     ·
      exact .inr h
   ·
    simp only [hy,decide_false,Bool.false_eq_true,if_false]
    refine ih a m ?_ ha fun x hx'=>hx x (List.mem_cons_of_mem _ hx')
    rcases h with h | h
    ·
     exact .inl h
    ·
     rcases List.mem_cons.mp h with h | h
     ·
      left;omega
     ·
      exact .inr h
 intro ns m hm hle
 cases ns with
 | nil=>cases hm
 | cons a r=>
  show some (r.foldl (fun m x=>if decide (m<x)=true then x else m) a)=some m
  rw [go r a m (List.mem_cons.mp hm) (hle a List.mem_cons_self) fun x hx=>hle x (List.mem_cons_of_mem _ hx)]
theorem mJ:∀ {ns:List Int} {m:Int},m∈ns→(∀ a,a∈ns→m≤a)→best (fun x m=>decide (x<m)) ns=some m:=by
 have go:∀ (r:List Int) (a m:Int),(m=a∨m∈r)→m≤a→(∀ x∈r,m≤x)→r.foldl (fun m x=>if decide (x<m) then x else m) a=m:=by
  intro r
  induction r with
  | nil=>intro a m h _ _;rcases h with h | h;exact h.symm;cases h
  | cons y r ih=>
   intro a m h ha hx
   rw [List.foldl_cons]
   by_cases hy:y<a
   ·
    simp only [hy,decide_true,if_true]
    refine ih y m ?_ (hx y List.mem_cons_self) fun x hx'=>hx x (List.mem_cons_of_mem _ hx')
    rcases h with h | h
    ·
     have:=hx y List.mem_cons_self;omega
    ·
     rcases List.mem_cons.mp h with h | h
     ·
      exact .inl h
     ·
      exact .inr h
   ·
    simp only [hy,decide_false,Bool.false_eq_true,if_false]
    refine ih a m ?_ ha fun x hx'=>hx x (List.mem_cons_of_mem _ hx')
    rcases h with h | h
    ·
     exact .inl h
    ·
     rcases List.mem_cons.mp h with h | h
     ·
      left;omega
     ·
      exact .inr h
 intro ns m hm hle
 cases ns with
 | nil=>cases hm
 | cons a r=>
  show some (r.foldl (fun m x=>if decide (x<m)=true then x else m) a)=some m
  rw [go r a m (List.mem_cons.mp hm) (hle a List.mem_cons_self) fun x hx=>hle x (List.mem_cons_of_mem _ hx)]
def iw:D→Option R
 | .lst ds=>(nums ds).bind fun ns=>(best (fun x m=>decide (m<x)) ns).map fun m=>.sh (.int m)
 | _=>none
def iz:D→Option R
 | .lst ds=>(nums ds).bind fun ns=>(best (fun x m=>decide (x<m)) ns).map fun m=>.sh (.int m)
 | _=>none
theorem jX {pins:List (Addr×Obj)} {σ:St} {H Hs:Hp} {s:Shared} (I:L2.Inv X pins σ H s) (S:aH Hs H) {ds:List D} {x:V} {us:List Value} (vd:View Hs H (.lst ds) x) (rv:aK [x] us) :
  ∃ a vs its,us=[.ref a]∧x=.ref a∧H a=some (.lst vs)∧ay Hs ds vs∧aK vs its∧PySem.PlainL s.heap a its.toArray∧vs.length≤sizeLine:=by
 obtain ⟨a,vs,eq,h1,h2⟩:=vd.lst S
 subst eq
 obtain ⟨u,rfl,ru⟩:=rv.one
 cases (show u=Value.ref a from ru)
 obtain ⟨its,rw',pl,hz⟩:=I.list (SqL.of (K:=X.K) h1)
 exact ⟨a,vs,its,rfl,rfl,h1,h2,rw',pl,hz⟩
end
end Ew
end
section
set_option Elab.async false
set_option linter.all false
set_option maxRecDepth 100000
namespace Ew
open PySem PySem.Spec L2
section
variable {X:Cx}
def cutD (xs:List D) (lo hi:Option Int):List D:=(xs.drop (HT.sIx xs.length 0 lo)).take (HT.sIx xs.length xs.length hi-HT.sIx xs.length 0 lo)
theorem mK {H:Hp} {ds:List D} {vs:List V} (lo hi:Option Int) (r:ay H ds vs):ay H (cutD ds lo hi) (cutV vs lo hi):=by
 unfold cutD cutV
 rw [r.length]
 exact (r.drop _).take _
abbrev FO:=DSt→Option (Option Int)
def tDO (f:FO):TO:=fun σ H Q=>∃ Hs δ o,aH Hs H∧eZ Hs H δ σ∧f δ=some o∧∀ Hs' H',Wd H Hs Hs' H'→Q o H'
structure DO (X:Cx) (e:Option Expr) (f:FO):Prop where
 go:PO X e (tDO f)
theorem _root_.L2.PO.weak {X:Cx} {e:Option Expr} {t t':TO} (h:PO X e t) (w:∀ σ H Q,t' σ H Q→t σ H Q):PO X e t':=fun pins s σ H Q I q=>h pins s σ H Q I (w σ H Q q)
def cB:FO:=fun _=>some none
def bM (f:FE):FO:=fun δ=>(f δ).bind fun r=>match r with
 | .sh (.int i)=>some (some i)
 | _=>none
theorem fO:DO X none cB:=.mk <| po_none.weak fun σ H Q ⟨Hs,δ,o,S,En,e,K⟩=>by
 cases e
 exact K Hs H (.refl S)
theorem dQ {e:Expr} {f:FE} (h:DE X e f):DO X (some e) (bM f):=.mk <| (po_some h.go).weak fun σ H Q ⟨Hs,δ,o,S,En,e,K⟩=>by
 unfold bM at e
 cases ef:f δ with
 | none=>rw [ef] at e;cases e
 | some r=>
  rw [ef] at e
  refine ⟨Hs,δ,r,S,En,ef,fun x Hs1 H1 W1 R1=>?_⟩
  match r,e,R1 with
  | .sh (.int i),e,R1=>
   cases e
   have R1:Rep Hs1 (.int i) x:=R1
   unfold Rep at R1
   exact ⟨i,R1,K Hs1 H1 W1⟩
def bL (f:FE) (fl fh:FO):FE:=fun δ=>(f δ).bind fun r=>(fl δ).bind fun lo=>(fh δ).bind fun hi=>match r.view with
 | .lst ds=>some (.fr (cutD ds lo hi))
 | _=>none
theorem dZ {e:Expr} {lo hi:Option Expr} {f:FE} {fl fh:FO} {p2 pos:Pos} (he:DE X e f) (hl:DO X lo fl) (hh:DO X hi fh):DE X (.Subscript e (.Slice lo hi none p2) pos) (bL f fl fh):=.mk <|
 (mw sl_list he.go hl.go hh.go).weak fun σ H Q ⟨Hs,δ,r,S,En,e,K⟩=>by
  unfold bL at e
  cases ef:f δ with
  | none=>rw [ef] at e;cases e
  | some rf=>
   cases el:fl δ with
   | none=>rw [ef,el] at e;cases e
   | some lo=>
    cases eh:fh δ with
    | none=>rw [ef,el,eh] at e;cases e
    | some hi=>
     rw [ef,el,eh] at e
     refine ⟨Hs,δ,rf,S,En,ef,fun x Hs1 H1 W1 R1=>⟨Hs1,δ,lo,W1.sub,En.mono W1,el,fun Hs2 H2 W2=>⟨Hs2,δ,hi,W2.sub,En.mono (W1.trans W2),eh,fun Hs3 H3 W3=>?_⟩⟩⟩
     have vw:=((R1.mono W2).mono W3).view
     replace e:(match rf.view with
      | .lst ds=>some (R.fr (cutD ds lo hi))
      | _=>none)=some r:=e
     cases hv:rf.view with
     | lst ds=>
      rw [hv] at e vw
      cases e
      obtain ⟨a,vs,rfl,h1,h2⟩:=vw.lst W3.sub
      have W13:=W1.trans (W2.trans W3)
      exact ⟨a,vs,rfl,.of h1,fun p hp=>K _ Hs3 _ (W13.trans (.fresh W3.sub hp)) ⟨p,_,rfl,W13.keep.free hp,W3.sub.free hp,ax,mK lo hi h2⟩⟩
     | _=>rw [hv] at e;cases e
def srt (ns:List Int):List Int:=ns.mergeSort (fun a b=>decide (a≤b))
theorem lJ {ns ns':List Int} (p:ns'.Perm ns) (s:ns'.Pairwise (·≤·)):ns'=srt ns:=by
 have p2:(srt ns).Perm ns:=List.mergeSort_perm _ _
 have s2:(srt ns).Pairwise (·≤·):=by
  have:=List.pairwise_mergeSort (le:=fun (a b:Int)=>decide (a≤b)) (fun a b c h1 h2=>by simp at *;omega) (fun a b=>by simp;omega) ns
  exact this.imp (fun h=>by simpa using h)
 exact List.Perm.eq_of_pairwise (fun a b _ _ h1 h2=>Int.le_antisymm h1 h2) s s2 (p.trans p2.symm)
def c8:D→Option R
 | .lst ds=>(nums ds).bind fun ns=>if ns.length<64 then some (.fr ((srt ns).map .int)) else none
 | _=>none
theorem mL:ca X (.builtin "sorted") (rC1 c8):=by
 intro pins s σ H xs us Q I rv h
 obtain ⟨x,rfl,Hs,d,r,S,vd,e,K⟩:=h
 match d,e,vd with
 | .lst ds,e,vd=>
  cases eb:nums ds with
  | none=>simp only [c8,eb] at e;cases e
  | some ns=>
   by_cases hz:ns.length<64
   ·
    simp only [c8,eb,Option.bind,if_pos hz] at e
    cases e
    obtain ⟨a,vs,its,rfl,rfl,h1,h2,rw',pl,hz'⟩:=jX I S vd rv
    have hi:=fu eb h2 rw'
    refine PyProof.Rows.sorted_ints pl.isList hi (by rw [hi.length];exact hz) fun out ns' a1 a2 a3=>?_
    have en:=lJ a2 a3
    subst en
    obtain ⟨ep,he⟩:=PyProof.Rows.sortedAll_at s.heap its out
    obtain ⟨q1,q2⟩:=k7 (H:=Hs) a1
    have k:∀ b u,s.heap.get? b=some u→(PyProof.Rows.sortedAll s.heap its out).get? b=some u:=fun _ _=>PyProof.Rows.sortedAll_old
    have hp:H (s.heap.objs.size+1)=none:=I.hok.fresh (Nat.le_succ _)
    refine ⟨.ref (s.heap.objs.size+1),_,I.laid (t':=s.toks) (o:=.lst ((srt ns).map V.int)) k (Nat.le_succ _) ⟨?_,out.toList,ep,q1,by simpa using he⟩,rfl,K _ Hs _ (.fresh S hp) ⟨_,_,rfl,hp,S.free hp,ax,q2⟩⟩
    rw [List.length_map,a2.length_eq]
    exact Nat.le_of_lt (bP (Nat.le_trans (Nat.le_of_lt hz) (by decide)))
   ·
    simp only [c8,eb,Option.bind,if_neg hz] at e;cases e
theorem c_max1 (hc:X.calm=true):ca X (.builtin "max") (rC1 iw):=by
 intro pins s σ H xs us Q I rv h
 obtain ⟨x,rfl,Hs,d,r,S,vd,e,K⟩:=h
 match d,e,vd with
 | .lst ds,e,vd=>
  cases eb:nums ds with
  | none=>simp only [iw,eb] at e;cases e
  | some ns=>
   obtain ⟨a,vs,its,rfl,rfl,h1,h2,rw',pl,hz'⟩:=jX I S vd rv
   have hi:=fu eb h2 rw'
   cases ns with
   | nil=>simp only [iw,eb,Option.bind,best] at e;cases e
   | cons n0 nr=>
    obtain ⟨ys,hx⟩:=hi.allInts.items
    have hns:n0::nr=ys.toList.map (·.1):=by rw [←hi.numsOf,←nums_intItems,←hx]
    have hsz:0<ys.size:=by
     have:=congrArg List.length hns
     simp at this
     omega
    have hl:s.heap.IsList a (intItems ys):=hx▸pl.isList
    refine max_intList (I.ok.hd hc) hl hsz fun v h' tk hv hk=>?_
    obtain ⟨t,rfl⟩:=intItems_at hv
    obtain ⟨q1,q2⟩:=argBest_gt (numAt ys) (ys.size-1)
    have mem:∀ j,j<ys.size→numAt ys j∈n0::nr:=fun j hj=>by
     rw [hns]
     unfold numAt
     simp only [Array.getElem?_eq_getElem hj,Option.map_some,Option.getD_some]
     exact List.mem_map.mpr ⟨ys[j],by simp,rfl⟩
    have eb2:best (fun x m=>decide (m<x)) (n0::nr)=some (numAt ys (argBest (fun i j=>decide (numAt ys i>numAt ys j)) (ys.size-1))):=by
     refine mI (mem _ (by omega)) fun b hb=>?_
     rw [hns] at hb
     obtain ⟨y,hy,rfl⟩:=List.mem_map.mp hb
     obtain ⟨j,hj,rfl⟩:=Array.mem_iff_getElem.mp (by simpa using hy)
     have:=q2 j (by omega)
     unfold numAt at this ⊢
     simpa [hj] using this
    simp only [iw,eb,Option.bind,eb2] at e
    cases e
    exact ⟨.int _,H,I.kept hk,⟨_,rfl⟩,K _ Hs H (.refl S) (shI _ _ _ _)⟩
theorem c_min1 (hc:X.calm=true):ca X (.builtin "min") (rC1 iz):=by
 intro pins s σ H xs us Q I rv h
 obtain ⟨x,rfl,Hs,d,r,S,vd,e,K⟩:=h
 match d,e,vd with
 | .lst ds,e,vd=>
  cases eb:nums ds with
  | none=>simp only [iz,eb] at e;cases e
  | some ns=>
   obtain ⟨a,vs,its,rfl,rfl,h1,h2,rw',pl,hz'⟩:=jX I S vd rv
   have hi:=fu eb h2 rw'
   cases ns with
   | nil=>simp only [iz,eb,Option.bind,best] at e;cases e
   | cons n0 nr=>
    obtain ⟨ys,hx⟩:=hi.allInts.items
    have hns:n0::nr=ys.toList.map (·.1):=by rw [←hi.numsOf,←nums_intItems,←hx]
    have hsz:0<ys.size:=by
     have:=congrArg List.length hns
     simp at this
     omega
    have hl:s.heap.IsList a (intItems ys):=hx▸pl.isList
    refine min_intList (I.ok.hd hc) hl hsz fun v h' tk hv hk=>?_
    obtain ⟨t,rfl⟩:=intItems_at hv
    obtain ⟨q1,q2⟩:=argBest_lt (numAt ys) (ys.size-1)
    have mem:∀ j,j<ys.size→numAt ys j∈n0::nr:=fun j hj=>by
     rw [hns]
     unfold numAt
     simp only [Array.getElem?_eq_getElem hj,Option.map_some,Option.getD_some]
     exact List.mem_map.mpr ⟨ys[j],by simp,rfl⟩
    have eb2:best (fun x m=>decide (x<m)) (n0::nr)=some (numAt ys (argBest (fun i j=>decide (numAt ys i<numAt ys j)) (ys.size-1))):=by
     refine mJ (mem _ (by omega)) fun b hb=>?_
     rw [hns] at hb
     obtain ⟨y,hy,rfl⟩:=List.mem_map.mp hb
     obtain ⟨j,hj,rfl⟩:=Array.mem_iff_getElem.mp (by simpa using hy)
     have:=q2 j (by omega)
     unfold numAt at this ⊢
     simpa [hj] using this
    simp only [iz,eb,Option.bind,eb2] at e
    cases e
    exact ⟨.int _,H,I.kept hk,⟨_,rfl⟩,K _ Hs H (.refl S) (shI _ _ _ _)⟩
end
end Ew
end
section
set_option Elab.async false
set_option linter.all false
set_option maxRecDepth 100000
namespace L2
open PySem PySem.Spec PyProof.Rows
section
variable {X:Cx} {pins:List (Addr×Obj)} {σ:List (Option V)} {H H':Hp} {s:Shared} {h':Heap}
theorem Inv.turnNew {t':Nat} {ch:List Addr} {p:Addr} {o:HO} (I:Inv X pins σ H s) (hp:s.heap.objs.size≤p) (k:∀ b u,b∉ch→s.heap.get? b=some u→h'.get? b=some u) (hf:∀ b∈ch,FpOk X pins H b)
  (new:cA X.prog X.w (upd H p o) h' p o):Inv X pins σ (upd H p o) { s with heap:=h',toks:=t' }:=by
 have hn:H p=none:=I.hok.fresh hp
 have nch:∀ b u,H b=some u→b∉ch:=fun b u e z=>by rw [(hf b z).1] at e;cases e
 refine I.step (g':=s.gens) (d':=s.drawn) (ch:=ch) (fun b hb=>⟨(hf b hb).2.2.2.1,(hf b hb).2.1,(hf b hb).2.2.2.2.1,(hf b hb).2.2.2.2.2⟩) (fun b u _ _ hc e _=>k b u hc e) (fun b u _ _ hc e _=>⟨u.slots,k b u hc e⟩)
  (fun b u _ e n=>by rw [aA (Nat.ne_of_lt (Nat.lt_of_lt_of_le (Heap.lt_size e) hp))];exact n) (fun b u hc e=>⟨u,k b u hc e⟩)
  (fun b xs e=>by rw [aA (aN e hn)];exact e) (fun b u xs e=>by rw [aA (aN e hn)];exact e) (fun b ps e=>⟨#[],by rw [aA (aN e hn),e];simp⟩) (fun m hm=>?_) (fun b u e=>?_) I.bare
 ·
  obtain ⟨ob,es,ep,ho,r⟩:=hm
  exact ⟨ob,es,ep,k _ ob (fun z=>(hf _ z).2.1 rfl) ho,r⟩
 ·
  by_cases hb:b=p
  ·
   subst hb;rw [ax] at e;cases e;exact new
  ·
   rw [aA hb] at e
   refine (I.hok b u e).stay (fun c v hc q=>k c v ?_ q) (fun c q=>by rw [aA (aN q hn)];exact q) fun c xs q=>by rw [aA (aN q hn)];exact q
   rcases hc with z | z
   ·
    rw [z];exact nch b u e
   ·
    exact nch c _ z
theorem Inv.turnedL {t':Nat} {ch:List Addr} (I:Inv X pins σ H s) (k:∀ b u,b∉ch→s.heap.get? b=some u→h'.get? b=some u) (hf:∀ b∈ch,FpOk X pins H b):Inv X pins σ H { s with heap:=h',toks:=t' }:=by
 have nch:∀ b u,H b=some u→b∉ch:=fun b u e z=>by rw [(hf b z).1] at e;cases e
 refine I.step (g':=s.gens) (d':=s.drawn) (ch:=ch) (fun b hb=>⟨(hf b hb).2.2.2.1,(hf b hb).2.1,(hf b hb).2.2.2.2.1,(hf b hb).2.2.2.2.2⟩) (fun b u _ _ hc e _=>k b u hc e) (fun b u _ _ hc e _=>⟨u.slots,k b u hc e⟩)
  (fun b u _ e n=>n) (fun b u hc e=>⟨u,k b u hc e⟩)
  (fun b xs e=>e) (fun b u xs e=>e) (fun b ps e=>⟨#[],by rw [e];simp⟩) (fun m hm=>?_) (fun b u e=>?_) I.bare
 ·
  obtain ⟨ob,es,ep,ho,r⟩:=hm
  exact ⟨ob,es,ep,k _ ob (fun z=>(hf _ z).2.1 rfl) ho,r⟩
 ·
  refine (I.hok b u e).stay (fun c v hc q=>k c v ?_ q) (fun c q=>q) fun c xs q=>q
  rcases hc with z | z
  ·
   rw [z];exact nch b u e
  ·
   exact nch c _ z
end
theorem two_line:(2:Nat)≤sizeLine:=by rw [sizeLine_eq];decide
section
variable {X:Cx} {elts:List Expr} {k:Nat} {tp:Pos}
def Ite (K:PySem.W.Frag) (a:Addr):It:=
 ⟨fun i H=>∃ xs x,SqL K H a xs∧xs[i]?=some x,
  fun i H v H'=>∃ p x,v=.ref p∧H p=none∧H'=upd H p (.tup [.int i,x])∧∀ xs,SqL K H a xs→xs[i]?=some x,
  fun i H=>∃ xs,SqL K H a xs∧xs.length≤i⟩
theorem turn_enum {P:Program} {w:World} {K:PySem.W.Frag} (a e it:Addr) (hne:e≠it) :
  Turn P w K (.Tuple elts k tp) (Ite K a) [e,it] e (fun i h=>(∃ old,IsEnum h e it i old)∧h.IsListIter it a i) where
 mem:=by simp
 obj:=fun i h st c hc=>by
  obtain ⟨⟨old,he⟩,⟨o1,e1,c1,d1⟩⟩:=st
  simp at hc
  rcases hc with rfl | rfl
  ·
   exact ⟨_,he,fun v z=>by cases (show Data.fields _=Data.cell v from z)⟩
  ·
   exact ⟨o1,e1,fun v z=>by rw [d1] at z;cases z⟩
 keep:=fun i h h' st k=>by
  obtain ⟨⟨old,he⟩,h1⟩:=st
  exact ⟨⟨old,k e (by simp) _ he⟩,h1.at fun o e=>k it (by simp) o e⟩
 item:=by
  intro X hP hw hK hc i pins s σ H E I hf st hg
  subst hP hw hK
  obtain ⟨⟨old,he⟩,h1⟩:=st
  obtain ⟨xs,x,hqa,hx⟩:=hg
  obtain ⟨its1,rv1,p1,hz1⟩:=I.list hqa
  obtain ⟨u1,hu1,ru1⟩:=rv1.get hx
  refine wpAny_pyNext_enum_item he h1 p1.isList (x:=u1) (by simpa using hu1) hne fun h' a1 a2 a3 a4 hk=>?_
  have hsz:e<s.heap.objs.size:=Heap.lt_size he
  refine ⟨_,rfl,wpAny_letOwnedTupleGo_enum a1 fun h'' hz'' hs''=>?_⟩
  have keep:∀ c o,c∉[e,it]→s.heap.get? c=some o→h''.get? c=some o:=fun c o hc e'=>by
   simp at hc
   exact hs''.extBut c o hc.1 (hk c o hc.1 hc.2 e')
  have tup:h''.get? s.heap.objs.size=some { cls:=.type "tuple",data:=.seq #[.int i s.toks,u1] }:=hs''.extBut _ _ (Nat.ne_of_gt hsz) a3
  have hn:H s.heap.objs.size=none:=I.hok.fresh (Nat.le_refl _)
  refine ⟨.ref s.heap.objs.size,upd H s.heap.objs.size (.tup [.int i,x]),I.turnNew (t':=s.toks+1) (ch:=[e,it]) (Nat.le_refl _) keep hf ?_,rfl,⟨_,x,rfl,hn,rfl,fun zs hzs=>by rw [I.list_inj hzs hqa];exact hx⟩,?_,fun c hc=>?_⟩
  ·
   exact ⟨two_line,[.int i s.toks,u1],.cons ⟨_,rfl⟩ (.cons ru1 .nil),⟨_,tup,rfl,_,rfl⟩⟩
  ·
   exact ⟨⟨_,by simpa using hz''⟩,a2.extBut hs''.extBut (Ne.symm hne)⟩
  ·
   have:c≠s.heap.objs.size:=by
    obtain ⟨o,ho,_⟩ : ∃ o,s.heap.get? c=some o∧True:=by
     simp at hc
     rcases hc with rfl | rfl
     ·
      exact ⟨_,he,trivial⟩
     ·
      obtain ⟨o,e,_⟩:=h1;exact ⟨o,e,trivial⟩
    exact Nat.ne_of_lt (Heap.lt_size ho)
   rw [aA this]
   exact (hf c hc).1
 done:=by
  intro X hP hw hK hc i pins s σ H E I hf st hg
  subst hP hw hK
  obtain ⟨⟨old,he⟩,h1⟩:=st
  obtain ⟨xs,hqa,hend⟩:=hg
  obtain ⟨its1,rv1,p1,hz1⟩:=I.list hqa
  have l1:=rv1.length
  exact wpAny_pyNext_enum_end (I.ok.hd hc) he h1 p1.isList (by simp;omega) fun h' hk=>⟨rfl,I.turnedL (t':=s.toks) (ch:=[e,it]) (fun c o hc' e'=>by
    simp at hc'
    exact hk c o hc'.2 e') hf⟩
 self:=fun _ _ _ _ _ st h=>by obtain ⟨⟨old,he⟩,_⟩:=st;exact wpAny_pyIter_enum he h
def iEnum (K:PySem.W.Frag) (ta:TA):TI:=fun σ H R=>ta σ H fun vs H1=>∃ a xs,vs=[.ref a]∧H1 a=some (.lst xs)∧R (Ite K a) H1
theorem pi_enum {a:Expr} {ta:TA} {p pos:Pos} (hg:Gl X "enumerate") (hm:X.mg "enumerate" = none) (ha:PA X [a] ta) (hs:starEach [a] X.env=[(false,eval a X.env)]:=by rfl) :
  PI X (.Tuple elts k tp) (.Call (.Name "enumerate" p) [a] [] pos) (iEnum X.K ta):=by
 intro pins s σ H R I h
 refine Call_ (gp I hg hm boot_enumerate (PyProof.Rows.callWith_type1 (thn (ha pos pins s σ H _ I h) fun us s1 ⟨vs,H1,I1,r1,q1⟩=>?_) hs rfl))
 obtain ⟨x,xs,e,hx,q⟩:=q1
 subst e
 cases r1 with
 | cons r rr=>
  cases rr
  cases r
  obtain ⟨z,its,n,rv,eo⟩:=I1.hok x _ hx
  refine call_enumerate_1 eo fun h' a1 a2 a3 kk=>?_
  refine wpAny_pyIter_enum a1 ?_
  refine ⟨_,_,_,_,H1,rfl,I1.kept (t':=s1.toks) kk,turn_enum x (s1.heap.objs.size+1) s1.heap.objs.size (Nat.succ_ne_self _),⟨⟨_,a1⟩,a2⟩,fun c hc=>?_,q⟩
  have:s1.heap.objs.size≤c:=by
   simp at hc
   rcases hc with rfl | rfl <;> omega
  exact I1.fpOk this (I1.hok.fresh this)
end
end L2
namespace Ew
open PySem PySem.Spec L2
section
variable {X:Cx} {elts:List Expr} {k:Nat} {tp:Pos}
def izip (fa:DSt→Option (List R)):DSt→Option (List D):=fun δ=>(fa δ).bind fun rs=>match rs with
 | [r,s]=>if r.isBw=true∨s.isBw=true then none else match r.view,s.view with
  | .lst xs,.lst ys=>some (List.zipWith (fun x y=>.tup [x,y]) xs ys)
  | _,_=>none
 | _=>none
def ienum (fa:DSt→Option (List R)):DSt→Option (List D):=fun δ=>(fa δ).bind fun rs=>match rs with
 | [r]=>if r.isBw=true then none else match r.view with
  | .lst xs=>some (List.zipWith (fun (k:Nat) x=>.tup [.int k,x]) (List.range xs.length) xs)
  | _=>none
 | _=>none
theorem rep_tup2 {H:Hp} {p:Addr} {x y:V} {dx dy:D} (h:H p=some (.tup [x,y])) (r1:Rep H dx x) (r2:Rep H dy y):Rep H (.tup [dx,dy]) (.ref p):=by
 unfold Rep
 exact ⟨p,_,rfl,h,.cons r1 (.cons r2 .nil)⟩
theorem di_enum {a:Expr} {fa:DSt→Option (List R)} {p pos:Pos} (hg:Gl X "enumerate") (hm:X.mg "enumerate" = none) (ha:DA X [a] fa) (hs:starEach [a] X.env=[(false,eval a X.env)]:=by rfl) :
  DI X (.Tuple elts k tp) (.Call (.Name "enumerate" p) [a] [] pos) (ienum fa):=.mk <|
 (pi_enum hg hm ha.go hs).weak fun σ H R0 ⟨Hs,δ,items,S,En,e,K⟩=>by
  unfold ienum at e
  cases ef:fa δ with
  | none=>rw [ef] at e;cases e
  | some rs=>
   rw [ef] at e
   refine ⟨Hs,δ,rs,S,En,ef,fun vs Hs1 H1 W1 R1=>?_⟩
   match rs,e,R1 with
   | [r],e,⟨v,t,ev,q1,q2⟩=>
    have q2:t=[]:=q2
    subst q2
    subst ev
    by_cases hb:r.isBw=true
    ·
     simp only [Option.bind,if_pos hb] at e;cases e
    ·
     simp only [Option.bind,if_neg hb] at e
     obtain ⟨Hs2,q,W2⟩:=q1.share W1 (fun ds z=>hb (by rw [z];rfl))
     cases hr:r.view with
     | lst xs=>
      rw [hr] at e q
      cases e
      unfold Rep at q
      obtain ⟨a1,us1,rfl,g1,g2⟩:=q
      refine ⟨a1,us1,rfl,W2.sub _ _ g1,K _ Hs2 H1 W2 ?_⟩
      intro i Hs5 H5 S1 S2
      have hH1:=S2 _ _ (S1 _ _ g1)
      refine ⟨fun d hd=>?_,fun hl=>⟨us1,.of hH1,by rw [g2.length];simpa using hl⟩⟩
      rw [List.getElem?_zipWith] at hd
      cases ex:xs[i]? with
      | none=>rw [ex] at hd;simp at hd
      | some dx=>
       have hi:i<xs.length:=(List.getElem?_eq_some_iff.mp ex).1
       rw [ex,List.getElem?_range hi] at hd
       simp at hd
       subst hd
       obtain ⟨w1,hw1,rw1⟩:=g2.get ex
       refine ⟨⟨us1,w1,.of hH1,hw1⟩,fun x H' yl=>?_⟩
       obtain ⟨pp,x1,rfl,hpp,rfl,z1⟩:=yl
       have z1:=z1 us1 (.of hH1)
       rw [hw1] at z1;cases z1
       have nw:aH Hs5 (L2.upd Hs5 pp (.tup [.int i,w1])):=.new (S2.free hpp)
       exact ⟨L2.upd Hs5 pp (.tup [.int i,w1]),.lay S2 hpp,rep_tup2 ax (by unfold Rep;rfl) (Rep.mono (S1.trans nw) _ rw1)⟩
     | _=>rw [hr] at e;cases e
end
end Ew
end
section
set_option Elab.async false
set_option linter.all false
set_option maxRecDepth 100000
namespace Ew
open PySem PySem.Spec L2
theorem StR.upd {H0 Hs0 Hs H:Hp} {δ:DSt} {σ:St} {i:Nat} {ds ds':List D} {a:Addr} {vs vs':List V} (W:Wd H0 Hs0 Hs H) (S:StR H0 Hs H δ σ) (q:δ[i]?=some (some (.ow ds))) (hv:σ[i]?=some (some (.ref a)))
  (h1:H a=some (.lst vs)) (m:Hs a=none) (r:ay Hs ds' vs'):Wd H0 Hs0 Hs (L2.upd H a (.lst vs'))∧StR H0 Hs (L2.upd H a (.lst vs')) (δ.set i (some (.ow ds'))) σ:=by
 have:=S.upG (Hs':=Hs) (H':=L2.upd H a (.lst vs')) (e':=.ow ds') (v':=.ref a) W q hv (fun b o n e=>by
  have:b≠a:=fun z=>n (by rw [z];rfl)
  rw [aA this];exact e) (fun b o e=>by rw [aA (aN e m)];exact W.sub _ _ e) (.refl _) (fun _ _ e=>.inl e) ⟨a,vs',rfl,m,ax,r⟩ (fun b f=>.inl f)
 rw [set_same hv] at this
 exact this
def dR (i:Nat) (f:FE):FS:=fun δ=>match δ[i]? with
 | some (some (.ow ds))=>(f δ).bind fun r=>if r.isBw=true then none else if ds.length≤big then some (.nx (δ.set i (some (.ow (ds++[r.view]))))) else none
 | _=>none
section
variable {X:Cx} {e:Expr} {f:FE}
theorem cX {i:Nat} {x:Str} {xp apos cpos pos:Pos} (hx:PE X (.Name x xp) (tVar i)) (he:DE X e f)
  (hbase:attributeBase (.Name x xp) "append" X.env (eval (.Name x xp) X.env)=eval (.Name x xp) X.env:=by rfl)
  (hfew:((backTo cpos (starEach [e] X.env)).all (fun x=>!x.1)&&(backToKw cpos (keywordEach [] X.env)).all (fun x=>x.1.isSome)
   &&decide ([e].length+([]:List Keyword).length+(if ([]:List Keyword).isEmpty then 0 else 1)<30))=true:=by rfl)
  (hline:(apos.endLine==cpos.line)=true:=by rfl) (hs:starEach [e] X.env=(false,eval e X.env)::starEach [] X.env:=by rfl)
  (hsw:swapsWith (.Call (.Attribute (.Name x xp) "append" apos) [e] [] cpos) none pos.line X.env=pure false:=by rfl) :
  DS X (.Expr (.Call (.Attribute (.Name x xp) "append" apos) [e] [] cpos) pos) (dR i f):=.mk fun H0 Hs0=>
 (lu (pe_bm PySem.F.plainAttrs_list PySem.F.slot_list_append PySem.F.type_list_append iY hx (bZ he.go dY hs) hbase hfew hline hs) hsw).weak fun D σ H ⟨Hs,δ,res,W,S,e,P⟩=>by
  unfold dR at e
  cases q:δ[i]? with
  | none=>rw [q] at e;cases e
  | some o=>
   rw [q] at e
   match o,e with
   | some (.ow ds),e=>
    obtain ⟨v,hv,a,vs,rfl,m,h1,h2⟩:=S.ent i _ q
    cases ef:f δ with
    | none=>simp only [ef] at e;cases e
    | some r=>
     simp only [ef,Option.bind] at e
     by_cases hb:r.isBw=true
     ·
      rw [if_pos hb] at e;cases e
     ·
      rw [if_neg hb] at e
      by_cases hz:ds.length≤big
      ·
       rw [if_pos hz] at e
       cases e
       refine ⟨_,hv,.inl ⟨rfl,vs,.of h1⟩,Hs,δ,r,W.sub,S.ent,ef,fun y Hs1 H1 W1 R1=>?_⟩
       obtain ⟨Hs2,g,W2⟩:=R1.share W1 (fun ds z=>hb (by rw [z];rfl))
       have S2:=S.mono W2
       refine ⟨a,vs,y,rfl,rfl,W2.keep _ _ h1,?_,?_⟩
       ·
        rw [h2.length];exact bP hz
       ·
        obtain ⟨W3,S3⟩:=S2.upd (W.trans W2) q hv (W2.keep _ _ h1) (W2.stay h1 m) ((ay.mono W2.base _ h2).append (.cons g .nil))
        exact P σ Hs2 _ W3 S3
      ·
       rw [if_neg hz] at e;cases e
def jM (g:Int→Int→Int) (i:Nat) (f:FE):FS:=fun δ=>match δ[i]? with
 | some (some (.sh (.int a)))=>(f δ).bind fun r=>match r with
  | .sh (.int b)=>some (.nx (δ.set i (some (.sh (.int (g a b))))))
  | _=>none
 | _=>none
theorem ds_aug {i:Nat} {x:Str} {op:Operator} {g:Int→Int→Int} {pos pos':Pos} (hN:X.N.Nodup) (hi:X.N[i]?=some x) (hx:Loc X.env.scope x) (he:DE X e f) (ho:PIp X op (ipI g))
  (hf:X.fn x=true∨X.env.scope.names.lookup x=some .local:=by first | exact .inl rfl | exact .inr rfl | assumption):DS X (.AugAssign (.Name x pos') op e pos) (jM g i f):=.mk fun H0 Hs0=>
 (ps_aug hN hi hx he.go ho hf).weak fun D σ H ⟨Hs,δ,res,W,S,e,P⟩=>by
  unfold jM at e
  cases q:δ[i]? with
  | none=>rw [q] at e;cases e
  | some o=>
   rw [q] at e
   match o,e with
   | some (.sh (.int a)),e=>
    obtain ⟨v,hv,hr⟩:=S.ent i _ q
    have hr:Rep Hs (.int a) v:=hr
    unfold Rep at hr
    subst hr
    refine ⟨_,hv,?_⟩
    cases ef:f δ with
    | none=>simp only [ef] at e;cases e
    | some r=>
     simp only [ef,Option.bind] at e
     refine ⟨Hs,δ,r,W.sub,S.ent,ef,fun y Hs1 H1 W1 R1=>?_⟩
     match r,e,R1 with
     | .sh (.int b),e,R1=>
      cases e
      have R1:Rep Hs1 (.int b) y:=R1
      unfold Rep at R1
      exact ⟨a,b,rfl,R1,P _ Hs1 H1 (W.trans W1) (S.set (r:=.sh (.int (g a b))) W W1 (shI _ _ _ _) rfl)⟩
end
end Ew
end
section
set_option Elab.async false
set_option linter.all false
set_option maxRecDepth 100000
namespace Ew
open PySem PySem.Spec L2
section
variable {X:Cx}
theorem c_rng1:ca X (.type "range") (fun xs H Q=>∃ j:Int,xs=[.int j]∧∀ r,H r=none→Q (.ref r) (L2.upd H r (.rng 0 j))):=by
 intro pins s σ H xs us Q I rv h
 obtain ⟨j,rfl,q⟩:=h
 obtain ⟨u,rfl,t,rfl⟩:=rv.one
 refine call_range_1 ?_
 exact ⟨.ref s.heap.objs.size,_,I.laid (o:=.rng 0 j) (fun b o e=>Heap.get?_push_of_some _ e) (Nat.le_refl _) ⟨_,_,_,Heap.get?_push_size _ rfl⟩,rfl,q _ (I.hok.fresh (Nat.le_refl _))⟩
theorem c_listR (hc:X.calm=true):ca X (.type "list") (fun xs H Q=>∃ r lo hi,xs=[.ref r]∧H r=some (.rng lo hi)∧(-1000000≤lo∧lo≤1000000∧-1000000≤hi∧hi≤1000000)∧
  ∀ l,H l=none→Q (.ref l) (L2.upd H l (.lst ((List.range (hi-lo).toNat).map fun k=>V.int (lo+(k:Nat)))))):=by
 intro pins s σ H xs us Q I rv h
 obtain ⟨r,lo,hi,rfl,h1,⟨b1,b2,b3,b4⟩,q⟩:=h
 obtain ⟨u,rfl,ru⟩:=rv.one
 cases (show u=Value.ref r from ru)
 obtain ⟨t,u,v,e⟩:=(show ∃ t u v,s.heap.get? r=some { cls:=.type "range",data:=.fields #[.int lo t,.int hi u,.int 1 v] } from I.hok r _ h1)
 have e2:Builtin.Range.rangeSize lo hi 1=(((hi-lo).toNat:Nat):Int):=by rw [rangeSize_one];split <;> omega
 refine call_list_range (I.ok.hd hc) e (small_one (by omega) (by omega) (by omega) (by omega)) e2 (by omega) fun h' tk acc' c' kk ho hacc=>?_
 obtain ⟨hs,hall⟩:=hacc
 have hv:aK ((List.range (hi-lo).toNat).map fun k=>V.int (lo+(k:Nat))) acc'.toList:=by
  have gen:∀ (n:Nat) (a:Int) (l:List Value),l.length=n→(∀ (j:Nat) (v:Value),l[j]?=some v→∃ t,v=Value.int (a+(j:Nat)) t)→aK ((List.range n).map fun k=>V.int (a+(k:Nat))) l:=by
   intro n
   induction n with
   | zero=>intro a l hl _;rw [List.length_eq_zero_iff.mp hl];exact .nil
   | succ n ih=>
    intro a l hl hall
    cases l with
    | nil=>cases hl
    | cons v l=>
     rw [List.range_succ_eq_map,List.map_cons,List.map_map]
     obtain ⟨t,ht⟩:=hall 0 v rfl
     refine .cons ⟨t,by simpa using ht⟩ ?_
     have:=ih (a+1) l (by simpa using hl) fun j w hw=>by
      obtain ⟨t,ht⟩:=hall (j+1) w (by simpa using hw)
      exact ⟨t,by rw [ht];congr 1;push_cast;omega⟩
     have e3:((fun k:Nat=>V.int (a+(k:Nat)))∘Nat.succ)=fun k:Nat=>V.int (a+1+(k:Nat)):=by
      funext k
      show V.int _=V.int _
      congr 1
      push_cast
      omega
     rw [e3]
     exact this
  refine gen _ lo acc'.toList (by simpa using hs) fun j v hj=>?_
  obtain ⟨t,ht⟩:=hall j v (by simpa using hj)
  exact ⟨t,by rw [ht];congr 1;omega⟩
 refine ⟨.ref s.heap.objs.size,_,I.laid (t':=tk) (o:=.lst _) kk (Nat.le_refl _) ⟨?_,acc'.toList,c',hv,by simpa using ho⟩,rfl,q _ (I.hok.fresh (Nat.le_refl _))⟩
 rw [List.length_map,List.length_range,PySem.sizeLine_eq]
 omega
def rngD (lo hi:Int):Option R:=if -1000000≤lo∧lo≤1000000∧-1000000≤hi∧hi≤1000000 then some (.fr ((List.range (hi-lo).toNat).map fun k=>.int (lo+(k:Nat)))) else none
def di (fa:DSt→Option (List R)):FE:=fun δ=>(fa δ).bind fun rs=>match rs with
 | [.sh (.int j)]=>rngD 0 j
 | _=>none
theorem mM {H:Hp} (lo:Int):∀ l:List Nat,ay H (l.map fun k=>D.int (lo+(k:Nat))) (l.map fun k=>V.int (lo+(k:Nat)))
 | []=>.nil
 | k::l=>.cons (by unfold Rep;rfl) (mM lo l)
theorem rng_end {σ:St} {H Hs Hs1 H1:Hp} {lo hi:Int} {r:R} {Q:VK} (W1:Wd H Hs Hs1 H1) (e:rngD lo hi=some r) (K:∀ v Hs' H',Wd H Hs Hs' H'→cV H Hs' H' r v→Q v H') {p:Addr} (hp:H1 p=none) :
  ∃ r' lo' hi',[V.ref p]=[V.ref r']∧(L2.upd H1 p (.rng lo hi)) r'=some (.rng lo' hi')∧(-1000000≤lo'∧lo'≤1000000∧-1000000≤hi'∧hi'≤1000000)∧
   ∀ l,(L2.upd H1 p (.rng lo hi)) l=none→Q (.ref l) (L2.upd (L2.upd H1 p (.rng lo hi)) l (.lst ((List.range (hi'-lo').toNat).map fun k=>V.int (lo'+(k:Nat))))):=by
 unfold rngD at e
 by_cases hc:-1000000≤lo∧lo≤1000000∧-1000000≤hi∧hi≤1000000
 ·
  rw [if_pos hc] at e
  cases e
  refine ⟨p,lo,hi,rfl,ax,hc,fun l hl=>?_⟩
  have W2:Wd H Hs Hs1 (L2.upd H1 p (.rng lo hi)):=W1.trans (.fresh W1.sub hp)
  exact K _ Hs1 _ (W2.trans (.fresh W2.sub hl)) ⟨l,_,rfl,W2.keep.free hl,W2.sub.free hl,ax,mM lo _⟩
 ·
  rw [if_neg hc] at e;cases e
theorem jx {a:Expr} {fa:DSt→Option (List R)} {p1 p2 pos1 pos2:Pos} (hc:X.calm=true) (ha:DA X [a] fa) (hg:Gl X "list") (hm:X.mg "list" = none) (hg2:Gl X "range") (hm2:X.mg "range" = none)
  (hs:starEach [a] X.env=[(false,eval a X.env)]:=by rfl)
  (hs2:starEach [.Call (.Name "range" p2) [a] [] pos2] X.env=[(false,eval (.Call (.Name "range" p2) [a] [] pos2) X.env)]:=by rfl) :
  DE X (.Call (.Name "list" p1) [.Call (.Name "range" p2) [a] [] pos2] [] pos1) (di fa):=.mk <|
 (iW (c_listR hc) hg hm PyProof.Rows.boot_list (bZ (iW c_rng1 hg2 hm2 PyProof.Rows.boot_range ha.go (he:=hs)) dY hs2) (he:=hs2)).weak fun σ H Q ⟨Hs,δ,r,S,En,e,K⟩=>by
  unfold di at e
  cases ef:fa δ with
  | none=>rw [ef] at e;cases e
  | some rs=>
   rw [ef] at e
   refine ⟨Hs,δ,rs,S,En,ef,fun vs Hs1 H1 W1 R1=>?_⟩
   match rs,e,R1 with
   | [.sh (.int j)],e,⟨v,t,ev,q1,q2⟩=>
    have q2:t=[]:=q2
    have q1:Rep Hs1 (.int j) v:=q1
    unfold Rep at q1
    exact ⟨j,by rw [ev,q1,q2],fun p hp=>rng_end (σ:=σ) W1 e K hp⟩
def d0:D→Option R
 | .int i=>some (.sh (.int (-i)))
 | _=>none
theorem gv {a:Expr} {f:FE} {pos:Pos} (h:DE X a f):DE X (.UnaryOp .USub a pos) (dun d0 f):=.mk <| (pe_un un_neg h.go).weak fun σ H Q hh=>by
 obtain ⟨Hs,δ,r,S,En,e,K⟩:=hh
 unfold dun at e
 cases ef:f δ with
 | none=>rw [ef] at e;cases e
 | some rf=>
  rw [ef] at e
  refine ⟨Hs,δ,rf,S,En,ef,fun x Hs1 H1 W1 R1=>?_⟩
  have vw:=R1.view
  cases hv:rf.view with
  | int i=>
   rw [hv] at vw
   simp only [Option.bind,hv,d0] at e
   cases e
   exact ⟨i,vw.int,K _ Hs1 H1 W1 (shI _ _ _ _)⟩
  | _=>simp only [Option.bind,hv,d0] at e;cases e
end
end Ew
end
section
set_option Elab.async false
set_option linter.all false
set_option maxRecDepth 100000
namespace L2
open PySem PySem.Spec PyProof.Rows
section
variable {X:Cx}
def tRev (K:PySem.W.Frag) (te ts:TE):TE:=fun σ H Q=>te σ H fun x H1=>ts σ H1 fun st H2=>st=.int (-1)∧∃ a xs,x=.ref a∧SqL K H2 a xs∧∀ p,H2 p=none→Q (.ref p) (upd H2 p (.lst xs.reverse))
theorem pe_rev {e step:Expr} {te ts:TE} {p2 pos:Pos} (he:PE X e te) (hst:PE X step ts):PE X (.Subscript e (.Slice none none (some step) p2) pos) (tRev X.K te ts):=by
 intro pins s σ H Q I h
 refine Subscript_ (thn (he pins s σ H _ I h) fun v s1 ⟨x,H1,I1,r1,q1⟩=>?_)
 refine wpAny_Slice ?_
 rw [evalPart_none]
 refine wpAny_pure (wpAny_pure ?_)
 rw [evalPart_some]
 refine thn (hst pins s1 σ H1 _ I1 q1) fun u s2 ⟨y,H2,I2,r2,e2,a,xs,ex,hx,q2⟩=>?_
 subst e2
 subst ex
 cases r1
 obtain ⟨t,rfl⟩:=r2
 have I4:Inv X pins σ H2 { s2 with heap:=s2.heap.push { cls:=.type "slice",data:=.fields #[.none,.none,.int (-1) t] } }:=I2.kept (t':=s2.toks) fun b ob q=>Heap.get?_push_of_some _ q
 obtain ⟨its,r,ht,hz⟩:=I4.list hx
 have hlen:=r.length
 show wpAny (model X.prog X.w) X.A (subscriptTail e (.Slice none none (some step) p2) (.ref a) (.ref s2.heap.objs.size)) (EP X pins σ Q) X.xe { s2 with heap:=s2.heap.push { cls:=.type "slice",data:=.fields #[.none,.none,.int (-1) t] } }
 refine tail_any (ops:=[.ref a,.ref s2.heap.objs.size]) ht.isList.typeIs slot_list_getitem.lookup ?_ (by with_unfolding_all rfl)
 refine wpAny_getItem_list_slice ht.isList (Heap.IsSliceOf.new ..) .none .none (.int (-1) t) (by simp) ?_ (by rw [List.size_toArray] <;> omega)
 rw [PySem.W.krv_pick]
 refine ⟨.ref _,_,I4.laid (t':=s2.toks) (o:=.lst xs.reverse) (fun b ob q=>Heap.get?_push_of_some _ q) (Nat.le_refl _) ?_,rfl,q2 _ (I4.hok.fresh (Nat.le_refl _))⟩
 exact ⟨by rw [List.length_reverse];exact hz,its.reverse,0,r.reverse,Heap.get?_push_size _ rfl⟩
end
end L2
namespace Ew
open PySem PySem.Spec L2
section
variable {X:Cx}
def drev (f fs:FE):FE:=fun δ=>(f δ).bind fun r=>(fs δ).bind fun s=>match r.view,s with
 | .lst ds,.sh (.int (-1))=>some (.fr ds.reverse)
 | _,_=>none
theorem de_rev {e step:Expr} {f fs:FE} {p2 pos:Pos} (he:DE X e f) (hst:DE X step fs):DE X (.Subscript e (.Slice none none (some step) p2) pos) (drev f fs):=.mk <|
 (pe_rev he.go hst.go).weak fun σ H Q ⟨Hs,δ,r,S,En,e,K⟩=>by
  unfold drev at e
  cases ef:f δ with
  | none=>rw [ef] at e;cases e
  | some rf=>
   cases es:fs δ with
   | none=>rw [ef,es] at e;cases e
   | some rs=>
    rw [ef,es] at e
    refine ⟨Hs,δ,rf,S,En,ef,fun x Hs1 H1 W1 R1=>⟨Hs1,δ,rs,W1.sub,En.mono W1,es,fun y Hs2 H2 W2 R2=>?_⟩⟩
    have vw:=(R1.mono W2).view
    cases hv:rf.view with
    | lst ds=>
     rw [hv] at vw
     match rs,e,R2 with
     | .sh (.int k),e,R2=>
      simp only [Option.bind,hv] at e
      have R2:Rep Hs2 (.int k) y:=R2
      unfold Rep at R2
      by_cases hk:k=-1
      ·
       subst hk
       cases e
       obtain ⟨a,vs,rfl,h1,h2⟩:=vw.lst W2.sub
       have W12:=W1.trans W2
       exact ⟨R2,a,vs,rfl,.of h1,fun p hp=>K _ Hs2 _ (W12.trans (.fresh W2.sub hp)) ⟨p,_,rfl,W12.keep.free hp,W2.sub.free hp,ax,h2.reverse⟩⟩
      ·
       exfalso
       revert e
       split
       ·
        rename_i h1 h2
        simp at h2
        omega
       ·
        intro z;cases z
     | .sh .non,e,_=>simp only [Option.bind,hv] at e;cases e
     | .sh (.bl _),e,_=>simp only [Option.bind,hv] at e;cases e
     | .sh (.str _),e,_=>simp only [Option.bind,hv] at e;cases e
     | .sh (.lst _),e,_=>simp only [Option.bind,hv] at e;cases e
     | .sh (.tup _),e,_=>simp only [Option.bind,hv] at e;cases e
     | .sh (.obj _ _),e,_=>simp only [Option.bind,hv] at e;cases e
     | .fr _,e,_=>simp only [Option.bind,hv] at e;cases e
     | .bw _,e,_=>simp only [Option.bind,hv] at e;cases e
    | _=>simp only [Option.bind,hv] at e;cases e
inductive TyD (K:PySem.W.Frag):D→Value→Prop where
 | non:TyD K .non (.type "NoneType")
 | bl (x:Bool):TyD K (.bl x) (.type "bool")
 | int (i:Int):TyD K (.int i) (.type "int")
 | str (x:Str):TyD K (.str x) (.type "str")
 | lst (xs:List D):TyD K (.lst xs) (.type "list")
 | tup (xs:List D):TyD K (.tup xs) (.type "tuple")
 | obj {C:Addr} (fs:List (Str×D)) (cl:Cls K C) (ha:PySem.W.findIn K (.ref C) "__class__" = some (some (.builtin "object.__class__")))
  (hn:PySem.W.specialIn K (.builtin "object.__class__") "__get__" = some (some (.builtin "getset_descriptor.__get__"))) (htk:PySem.W.takesIn K (.builtin "object.__class__")=some true)
  (hm:PySem.W.mroIn K C (.type "object")=some true):TyD K (.obj C fs) (.ref C)
theorem TyD.of {K:PySem.W.Frag} {Hs H:Hp} {d:D} {t:Value} {v:V} (S:aH Hs H) (ty:TyD K d t) (h:View Hs H d v):ii K H v t:=by
 cases ty with
 | non=>rw [h.non];exact .non
 | bl x=>rw [h.bl];exact .bl x
 | int i=>rw [h.int];exact .int i
 | str x=>rw [h.str];exact .str x
 | lst xs=>obtain ⟨a,vs,rfl,h1,_⟩:=h.lst S;exact .lst h1
 | tup xs=>obtain ⟨a,vs,rfl,h1,_⟩:=h.tup S;exact .tup h1
 | obj fs cl ha hn htk hm=>obtain ⟨a,dx,fvs,rfl,h1,_⟩:=h.obj S;exact .ins h1 cl ha hn htk hm
theorem RelV.fn {x:V} {u v:Value} (hx:(∃ n,x=.ty n)∨∃ a,x=.ref a) (a:RelV x u) (b:RelV x v):u=v:=by
 rcases hx with ⟨n,rfl⟩ | ⟨n,rfl⟩
 ·
  cases (show u=Value.type n from a);cases (show v=Value.type n from b);rfl
 ·
  cases (show u=Value.ref n from a);cases (show v=Value.ref n from b);rfl
theorem c_isinst:ca X (.builtin "isinstance") (fun xs H Q=>∃ x c cu t b,xs=[x,c]∧((∃ n,c=.ty n)∨∃ a,c=.ref a)∧RelV c cu∧ii X.K H x t∧PySem.W.kitOne X.K t cu=some b∧Q (.bl b) H):=by
 intro pins s σ H xs us Q I rv h
 obtain ⟨x,c,cu,t,b,rfl,hc,rc,ty,hk,q⟩:=h
 obtain ⟨u,u2,rfl,ru,ru2⟩:=rv.two
 cases RelV.fn hc rc ru2
 exact isinst_ok I ru ty hk fun tk=>⟨.bl b,H,I.tok tk,rfl,q⟩
def aw (ans:D→Option Bool) (f:FE):FE:=fun δ=>(f δ).bind fun r=>(ans r.view).map fun b=>.sh (.bl b)
theorem fv {e c:Expr} {f:FE} {cv:V} {cu:Value} {ans:D→Option Bool} {p pos:Pos} (he:DE X e f) (hc:PE X c (tC cv)) (hcv:(∃ n,cv=.ty n)∨∃ a,cv=.ref a) (rc:RelV cv cu)
  (hk:∀ d b,ans d=some b→∃ t,TyD X.K d t∧PySem.W.kitOne X.K t cu=some b) (hg:Gl X "isinstance") (hm:X.mg "isinstance" = none)
  (hs:starEach [e,c] X.env=(false,eval e X.env)::starEach [c] X.env:=by rfl) (hs2:starEach [c] X.env=(false,eval c X.env)::starEach [] X.env:=by rfl) (hpl:(backTo pos (starEach [c] X.env)).any (·.1)=false:=by rfl) :
  DE X (.Call (.Name "isinstance" p) [e,c] [] pos) (aw ans f):=.mk <|
 (ij c_isinst hg hm PyProof.Rows.boot_isinstance (bZ he.go (bZ hc dY hs2) hs) (he:=hs) (hpl:=hpl)).weak fun σ H Q ⟨Hs,δ,r,S,En,e,K⟩=>by
  unfold aw at e
  cases ef:f δ with
  | none=>rw [ef] at e;cases e
  | some rf=>
   rw [ef] at e
   replace e:(ans rf.view).map (fun b=>R.sh (.bl b))=some r:=e
   cases ea:ans rf.view with
   | none=>rw [ea] at e;cases e
   | some b=>
    rw [ea] at e
    cases e
    refine ⟨Hs,δ,rf,S,En,ef,fun x Hs1 H1 W1 R1=>?_⟩
    obtain ⟨t,ty,hkk⟩:=hk _ _ ea
    exact ⟨x,cv,cu,t,b,rfl,hcv,rc,ty.of W1.sub R1.view,hkk,K _ Hs1 H1 W1 (shB _ _ _ _)⟩
def iA (i j:Nat) (fa fb:FE):FS:=fun δ=>(fa δ).bind fun r=>(fb δ).bind fun t=>r.ent.bind fun e1=>t.ent.bind fun e2=>some (.nx ((δ.set i (some e1)).set j (some e2)))
theorem ds_par {i j:Nat} {x y:Str} {a b:Expr} {fa fb:FE} {px py pt pos:Pos} {kt k2 pt2} (hc:X.calm=true) (hN:X.N.Nodup) (hi:X.N[i]?=some x) (hj:X.N[j]?=some y) (hij:i≠j)
  (hx:X.env.scope.names.lookup x=some .local) (hy:X.env.scope.names.lookup y=some .local) (ha:DE X a fa) (hb:DE X b fb)
  (hw:swappedStores [.Tuple [.Name x px,.Name y py] kt pt] (.Tuple [a,b] k2 pt2) X.env=pure (some [x,y]))
  (hs:swapsWithSole [.Tuple [.Name x px,.Name y py] kt pt] (.Tuple [a,b] k2 pt2) pos.line X.env=pure false:=by rfl)
  (hs1:starEach [a,b] X.env=(false,eval a X.env)::starEach [b] X.env:=by rfl) (hs2:starEach [b] X.env=(false,eval b X.env)::starEach [] X.env:=by rfl) :
  DS X (.Assign [.Tuple [.Name x px,.Name y py] kt pt] (.Tuple [a,b] k2 pt2) pos) (iA i j fa fb):=.mk fun H0 Hs0=>
 (ps_par hc hN hi hj hij hx hy (bZ ha.go (bZ hb.go dY hs2) hs1) hw hs).weak fun D σ H ⟨Hs,δ,res,W,S,e,P⟩=>by
  unfold iA at e
  cases ea:fa δ with
  | none=>rw [ea] at e;cases e
  | some r=>
   cases eb:fb δ with
   | none=>rw [ea,eb] at e;cases e
   | some t=>
    rw [ea,eb] at e
    replace e:(r.ent.bind fun e1=>t.ent.bind fun e2=>some (Res.nx ((δ.set i (some e1)).set j (some e2))))=some res:=e
    cases er:r.ent with
    | none=>rw [er] at e;cases e
    | some e1=>
     cases et:t.ent with
     | none=>rw [er,et] at e;cases e
     | some e2=>
      rw [er,et] at e
      cases e
      refine ⟨Hs,δ,r,W.sub,S.ent,ea,fun v Hs1 H1 W1 R1=>⟨Hs1,δ,t,W1.sub,S.ent.mono W1,eb,fun u Hs2 H2 W2 R2=>?_⟩⟩
      refine ⟨v,u,rfl,?_⟩
      have W12:=W1.trans W2
      have S2:=S.set (i:=i) W W12 (R1.mono W2) er
      have S3:StR H0 Hs2 H2 ((δ.set i (some e1)).set j (some e2)) ((σ.set i (some v)).set j (some u)):=by
       have R2':cV H1 Hs2 H2 t u:=R2
       cases t with
       | sh d=>
        cases et
        exact S2.set (i:=j) (r:=.sh d) (W.trans W12) (.refl W2.sub) R2 rfl
       | fr ds=>
        cases et
        obtain ⟨p,vs,ep,n1,m,h1,h2⟩:=R2'
        have S1:=S.set (i:=i) W W1 R1 er
        exact S1.set (i:=j) (r:=.fr ds) (W.trans W1) W2 ⟨p,vs,ep,n1,m,h1,h2⟩ rfl
       | bw ds=>cases et
      exact P _ Hs2 H2 (W.trans W12) S3
end
end Ew
end
section
set_option Elab.async false
set_option linter.all false
set_option maxRecDepth 100000
namespace L2
open PySem PySem.Spec PyProof.Rows
section
variable {X:Cx} {a b c d:Expr} {ta tb tc td:TE} {pos:Pos}
def tChain3 (r r' r'':R2) (ta tb tc td:TE):TE:=fun σ H Q=>ta σ H fun x H1=>tb σ H1 fun y H2=>r x y H2 fun z H3=>∃ k,z=.bl k∧
 (if k=true then tc σ H3 fun w H4=>r' y w H4 fun z2 H5=>∃ k2,z2=.bl k2∧(if k2=true then td σ H5 fun w2 H6=>r'' w w2 H6 Q else Q (.bl false) H5) else Q (.bl false) H3)
theorem pe_chain3 {op op' op'':CmpOp} {r r' r'':R2} (ho:OpR X (compareOp op) r) (ho':OpR X (compareOp op') r') (ho'':OpR X (compareOp op'') r'') (ha:PE X a ta) (hb:PE X b tb) (hc:PE X c tc) (hd:PE X d td)
  (hm:lastMarks [op,op',op''] [b,c,d]=false:=by with_unfolding_all rfl):PE X (.Compare a [op,op',op''] [b,c,d] pos) (tChain3 r r' r'' ta tb tc td):=by
 intro pins s σ H Q I h
 refine Compare_chain (thn (ha pins s σ H _ I h) fun v s1 ⟨x,H1,I1,r1,q1⟩=>chain_link (thn (hb pins s1 σ H1 _ I1 q1) fun u s2 ⟨y,H2,I2,r2,q2⟩=>
  thn (ho pins s2 σ H2 x y v u _ I2 r1 r2 q2) fun d s3 ⟨z,H3,I3,r3,k,e,q3⟩=>?_)) hm
 subst e
 cases r3
 refine wpAny_truthy_bool ?_
 cases k with
 | false=>exact ite_ff ⟨.bl false,H3,I3,rfl,q3⟩
 | true=>
  refine ite_tt (chain_link (thn (hc pins s3 σ H3 _ I3 q3) fun w' s4 ⟨z',H4,I4,r4,q4⟩=>thn (ho' pins s4 σ H4 y z' u w' _ I4 r2 r4 q4) fun d2 s5 ⟨z2,H5,I5,r5,k2,e2,q5⟩=>?_))
  subst e2
  cases r5
  refine wpAny_truthy_bool ?_
  cases k2 with
  | false=>exact ite_ff ⟨.bl false,H5,I5,rfl,q5⟩
  | true=>exact ite_tt (chain_last (thn (hd pins s5 σ H5 _ I5 q5) fun w2 s6 ⟨z3,H6,I6,r6,q6⟩=>ho'' pins s6 σ H6 z' z3 w' w2 Q I6 r4 r6 q6))
end
end L2
namespace Ew
open PySem PySem.Spec L2
section
variable {X:Cx} {a b c d:Expr} {fa fb fc fd:FE} {pos:Pos} {o o' o'':D→D→Option R}
def iB (o o' o'':D→D→Option R) (fa fb fc fd:FE):FE:=fun δ=>(fa δ).bind fun a=>(fb δ).bind fun b=>(o a.view b.view).bind fun r=>match r with
 | .sh (.bl true)=>(fc δ).bind fun c=>(o' b.view c.view).bind fun r2=>match r2 with
  | .sh (.bl true)=>(fd δ).bind fun d=>o'' c.view d.view
  | .sh (.bl false)=>some (.sh (.bl false))
  | _=>none
 | .sh (.bl false)=>some (.sh (.bl false))
 | _=>none
theorem tD_chain3 {σ:St} {H:Hp} {Q:VK} (h:tD (iB o o' o'' fa fb fc fd) σ H Q):tChain3 (rD o) (rD o') (rD o'') (tD fa) (tD fb) (tD fc) (tD fd) σ H Q:=by
 obtain ⟨Hs,δ,r,S,En,e,K⟩:=h
 unfold iB at e
 cases ea:fa δ with
 | none=>simp only [ea] at e;cases e
 | some ra=>
  cases eb:fb δ with
  | none=>simp only [ea,eb] at e;cases e
  | some rb=>
   cases eo:o ra.view rb.view with
   | none=>simp only [ea,eb,eo,Option.bind] at e;cases e
   | some ro=>
    simp only [ea,eb,eo,Option.bind] at e
    refine ⟨Hs,δ,ra,S,En,ea,fun x Hs1 H1 W1 R1=>⟨Hs1,δ,rb,W1.sub,En.mono W1,eb,fun y Hs2 H2 W2 R2=>?_⟩⟩
    refine ⟨Hs2,ra.view,rb.view,ro,W2.sub,(R1.mono W2).view,R2.view,eo,fun v Hs3 H3 W3 R3=>?_⟩
    have W13:=W1.trans (W2.trans W3)
    match ro,e,R3 with
    | .sh (.bl false),e,R3=>
     cases e
     refine ⟨false,unB R3,?_⟩
     rw [if_neg Bool.false_ne_true]
     exact K _ Hs3 H3 W13 (shB _ _ _ _)
    | .sh (.bl true),e,R3=>
     refine ⟨true,unB R3,?_⟩
     rw [if_pos rfl]
     cases ec:fc δ with
     | none=>simp only [ec] at e;cases e
     | some rc=>
      cases eo2:o' rb.view rc.view with
      | none=>simp only [ec,eo2] at e;cases e
      | some ro2=>
       simp only [ec,eo2] at e
       refine ⟨Hs3,δ,rc,W3.sub,En.mono W13,ec,fun z Hs4 H4 W4 R4=>?_⟩
       refine ⟨Hs4,rb.view,rc.view,ro2,W4.sub,((R2.mono W3).mono W4).view,R4.view,eo2,fun v2 Hs5 H5 W5 R5=>?_⟩
       have W15:=W13.trans (W4.trans W5)
       match ro2,e,R5 with
       | .sh (.bl false),e,R5=>
        cases e
        refine ⟨false,unB R5,?_⟩
        rw [if_neg Bool.false_ne_true]
        exact K _ Hs5 H5 W15 (shB _ _ _ _)
       | .sh (.bl true),e,R5=>
        refine ⟨true,unB R5,?_⟩
        rw [if_pos rfl]
        cases ed:fd δ with
        | none=>simp only [ed] at e;cases e
        | some rd=>
         simp only [ed] at e
         refine ⟨Hs5,δ,rd,W5.sub,En.mono W15,ed,fun z2 Hs6 H6 W6 R6=>?_⟩
         refine ⟨Hs6,rc.view,rd.view,r,W6.sub,((R4.mono W5).mono W6).view,R6.view,e,fun v3 Hs7 H7 W7 R7=>?_⟩
         exact K v3 Hs7 H7 (W15.trans (W6.trans W7)) (R7.older (W15.keep.trans W6.keep))
theorem de_chain3 {op op' op'':CmpOp} (ho:OpR X (compareOp op) (rD o)) (ho':OpR X (compareOp op') (rD o')) (ho'':OpR X (compareOp op'') (rD o'')) (ha:DE X a fa) (hb:DE X b fb) (hc:DE X c fc) (hd:DE X d fd)
 (hm:lastMarks [op,op',op''] [b,c,d]=false:=by with_unfolding_all rfl):DE X (.Compare a [op,op',op''] [b,c,d] pos) (iB o o' o'' fa fb fc fd):=.mk <| (pe_chain3 ho ho' ho'' ha.go hb.go hc.go hd.go hm).weak fun _ _ _=>tD_chain3
end
end Ew
end
section
set_option Elab.async false
set_option linter.all false
set_option maxRecDepth 100000
namespace Ew
open PySem PySem.Spec L2
structure Df (K:PySem.W.Frag) (mg:Str→Option Value) (x qual:Str) (st:Stmt) (ps:List Str) (f:Addr) (fd:FuncData):Prop where
 fn:Fun K x qual st f fd
 mgx:mg x=some (.ref f)
 bd:Binds K fd ps []
section
variable {X:Cx} {e:Expr} {es:List Expr} {fr:DSt→Option (List R)} {x:Str} {p pos:Pos} {id T:String}
theorem de_u {qual:Str} {st:Stmt} {ps:List Str} {f:Addr} {fd:FuncData} {k n:Nat} {m:List D→Option D} (d:Df X.K X.mg x qual st ps f fd) (G:dL X.prog X.w X.K X.mg X.base CX0 k f fd ps (spD n m)) (hr:bq k X.A) (ha:DA X (e::es) fr)
 (hg:Gl X x:=by rfl) (hdb:(x==("__debug__" : Str))=false:=by decide) (he:starEach (e::es) X.env=(false,eval e X.env)::starEach es X.env:=by exact bx rfl) (hpl:(backTo pos (starEach es X.env)).any (·.1)=false:=by rfl) :
 DE X (.Call (.Name x p) (e::es) [] pos) (aq n m fr):=.mk <| (lx (E:=E0) G hr hg d.mgx d.fn.kp d.bd .nil kY ha.go hdb he hpl).weak fun _ _ _=>tD_call
theorem de_m {C:Addr} {n:Nat} {m:List D→Option D} {fo:FE} (h:PE X e (tMeth C x (spD n m) [] E0 (tD fo) (tDA fr))):DE X e (bB C x n m fo fr):=.mk <| h.weak fun _ _ _=>tD_meth
theorem de_m0 {C:Addr} {n:Nat} {m:List D→Option D} {fo:FE} (h:PE X e (tMeth C x (spD n m) [] E0 (tD fo) tNil)):DE X e (bB C x n m fo ah):=.mk <| h.weak fun σ H Q hq=>by
 obtain ⟨Hs,δ,r,S,En,e,K⟩:=tD_meth (E:=E0) hq
 refine ⟨Hs,δ,r,S,En,e,fun x0 Hs1 H1 W1 R1=>?_⟩
 obtain ⟨a,dx,fs,e1,h1,h2,Hs2,δ2,rs,S2,En2,e2,K2⟩:=K x0 Hs1 H1 W1 R1
 refine ⟨a,dx,fs,e1,h1,h2,?_⟩
 cases e2
 exact K2 [] Hs2 H1 (.refl S2) rfl
theorem gW {o:D→Option R} (hc:ca X (.builtin id) (rC1 o)) (hv:bootBuiltins x=some (.builtin id)) (hm:X.mg x=none) (ha:DA X [e] fr) (hg:Gl X x:=by rfl) (hn:x≠"__name__":=by decide) (hdb:(x==("__debug__" : Str))=false:=by decide)
 (he:starEach [e] X.env=(false,eval e X.env)::starEach [] X.env:=by rfl):DE X (.Call (.Name x p) [e] [] pos) (az o fr):=.mk <| (ij hc hg hm hv ha.go hn hdb he rfl).weak fun _ _ _=>mB
theorem kg {e2:Expr} {o:D→D→Option R} (hc:ca X (.builtin id) (rC2 o)) (hv:bootBuiltins x=some (.builtin id)) (hm:X.mg x=none) (ha:DA X [e,e2] fr) (hg:Gl X x:=by rfl) (hn:x≠"__name__":=by decide) (hdb:(x==("__debug__" : Str))=false:=by decide)
 (he:starEach [e,e2] X.env=(false,eval e X.env)::starEach [e2] X.env:=by rfl) (hpl:(backTo pos (starEach [e2] X.env)).any (·.1)=false:=by rfl):DE X (.Call (.Name x p) [e,e2] [] pos) (bu o fr):=.mk <| (ij hc hg hm hv ha.go hn hdb he hpl).weak fun _ _ _=>tD_call2
theorem de_t1 {o:D→Option R} (hc:ca X (.type T) (rC1 o)) (hv:bootBuiltins x=some (.type T)) (hm:X.mg x=none) (ha:DA X [e] fr) (hg:Gl X x:=by rfl) (hn:x≠"__name__":=by decide) (hdb:(x==("__debug__" : Str))=false:=by decide)
 (he:starEach [e] X.env=(false,eval e X.env)::starEach [] X.env:=by rfl):DE X (.Call (.Name x p) [e] [] pos) (az o fr):=.mk <| (iW hc hg hm hv ha.go hn hdb he rfl).weak fun _ _ _=>mB
end
def isC (C:Addr):Addr→Bool:=fun a=>a==C
theorem isC_of {C a:Addr} (h:isC C a=true):a=C:=by unfold isC at h;simpa using h
end Ew
namespace Ew
def cY:D→Option Bool
 | .int _=>some true
 | .bl _=>some true
 | .obj _ _=>none
 | _=>some false
def is_bool:D→Option Bool
 | .bl _=>some true
 | .obj _ _=>none
 | _=>some false
def eP:D→Option Bool
 | .lst _=>some true
 | .obj _ _=>none
 | _=>some false
def iC:D→Option Bool
 | .tup _=>some true
 | .obj _ _=>none
 | _=>some false
end Ew
end
section
set_option Elab.async false
set_option linter.all false
set_option maxRecDepth 100000
namespace Ew
open PySem PySem.Spec L2
section
variable {δ:DSt} {fa fb fc f:FE} {fr:DSt→Option (List R)} {t u:DSt→Option Bool} {F G:FS}
@[simp] theorem fP (i:Nat):aa i δ=match δ[i]? with
 | some (some (.sh d))=>some (.sh d)
 | some (some (.ow ds))=>some (.bw ds)
 | _=>none:=rfl
@[simp] theorem kh (d:D):ac d δ=some (.sh d):=rfl
@[simp] theorem dbin_e (o:D→D→Option R):ad o fa fb δ=(fa δ).bind fun a=>(fb δ).bind fun b=>o a.view b.view:=rfl
@[simp] theorem dun_e (o:D→Option R):dun o fa δ=(fa δ).bind fun a=>o a.view:=rfl
@[simp] theorem cI:aj f δ=(f δ).bind R.bool:=rfl
@[simp] theorem dchain_e (o o':D→D→Option R):dw o o' fa fb fc δ=(fa δ).bind fun a=>(fb δ).bind fun b=>(o a.view b.view).bind fun r=>match r with
 | .sh (.bl true)=>(fc δ).bind fun c=>o' b.view c.view
 | .sh (.bl false)=>some (.sh (.bl false))
 | _=>none:=rfl
@[simp] theorem dchain3_e {fd:FE} (o o' o'':D→D→Option R):iB o o' o'' fa fb fc fd δ=(fa δ).bind fun a=>(fb δ).bind fun b=>(o a.view b.view).bind fun r=>match r with
 | .sh (.bl true)=>(fc δ).bind fun c=>(o' b.view c.view).bind fun r2=>match r2 with
  | .sh (.bl true)=>(fd δ).bind fun d=>o'' c.view d.view
  | .sh (.bl false)=>some (.sh (.bl false))
  | _=>none
 | .sh (.bl false)=>some (.sh (.bl false))
 | _=>none:=rfl
@[simp] theorem lK:dI t u δ=(t δ).bind fun c=>if c=true then u δ else some false:=rfl
@[simp] theorem lL:bo t u δ=(t δ).bind fun c=>if c=true then some true else u δ:=rfl
@[simp] theorem dtNot_e:bf t δ=(t δ).map (!·):=rfl
@[simp] theorem dand_e:jL fa fb δ=(fa δ).bind fun r=>match r with
 | .sh (.bl true)=>fb δ
 | .sh (.bl false)=>some (.sh (.bl false))
 | _=>none:=rfl
@[simp] theorem dor_e:dor fa fb δ=(fa δ).bind fun r=>match r with
 | .sh (.bl true)=>some (.sh (.bl true))
 | .sh (.bl false)=>fb δ
 | _=>none:=rfl
@[simp] theorem dnot_e:dnot fa δ=(fa δ).bind fun r=>match r with
 | .sh (.bl b)=>some (.sh (.bl (!b)))
 | _=>none:=rfl
@[simp] theorem dif_e:dif t fa fb δ=(t δ).bind fun k=>if k=true then fa δ else fb δ:=rfl
@[simp] theorem ej:ah δ=some []:=rfl
@[simp] theorem aG:ab fa fr δ=(fa δ).bind fun r=>(fr δ).bind fun rs=>some (r::rs):=rfl
@[simp] theorem dlst_e:cE fr δ=(fr δ).bind fun rs=>if cT rs=true∧rs.length≤big then some (.fr (rs.map R.view)) else none:=rfl
@[simp] theorem dtup_e:b9 fr δ=(fr δ).bind fun rs=>if cT rs=true∧rs.length≤big then some (.sh (.tup (rs.map R.view))) else none:=rfl
@[simp] theorem iD (n:Nat) (m:List D→Option D):aq n m fr δ=(fr δ).bind (io n m):=rfl
@[simp] theorem dcallF_e (n:Nat) (m:List D→Option (List D)):dcallF n m fr δ=(fr δ).bind (mcallF n m):=rfl
@[simp] theorem gL (n:Nat) (m:List D→Option D) (rs:List R):io n m rs=(m (rs.map R.view)).bind fun d=>if rs.length=n∧(cT rs=true∨d.flat=true) then some (.sh d) else none:=rfl
@[simp] theorem mcallF_e (n:Nat) (m:List D→Option (List D)) (rs:List R):mcallF n m rs=(m (rs.map R.view)).bind fun d=>if rs.length=n∧cT rs=true then some (.fr d) else none:=rfl
@[simp] theorem ja (ok:Addr→Bool) (x:Str):bh ok x fa δ=(fa δ).bind fun r=>match r.view with
 | .obj C fs=>if ok C=true then (fs.lookup x).map .sh else none
 | _=>none:=rfl
@[simp] theorem dmeth_e (C:Addr) (name:Str) (n:Nat) (m:List D→Option D):bB C name n m fa fr δ=(fa δ).bind fun r=>match r.view with
 | .obj C' fs=>if C'=C∧fs.lookup name=none then (fr δ).bind fun rs=>io n m (r::rs) else none
 | _=>none:=rfl
@[simp] theorem eu (o:D→Option R):az o fr δ=(fr δ).bind fun rs=>match rs with
 | [r]=>o r.view
 | _=>none:=rfl
@[simp] theorem dcall2_e (o:D→D→Option R):bu o fr δ=(fr δ).bind fun rs=>match rs with
 | [r,s]=>o r.view s.view
 | _=>none:=rfl
@[simp] theorem bm (d:D):(R.sh d).view=d:=rfl
@[simp] theorem view_fr (ds:List D):(R.fr ds).view=.lst ds:=rfl
@[simp] theorem view_bw (ds:List D):(R.bw ds).view=.lst ds:=rfl
@[simp] theorem iE (d:D):(R.sh d).isBw=false:=rfl
@[simp] theorem isBw_fr (ds:List D):(R.fr ds).isBw=false:=rfl
@[simp] theorem isBw_bw (ds:List D):(R.bw ds).isBw=true:=rfl
@[simp] theorem lM (b:Bool):(R.sh (.bl b)).bool=some b:=rfl
@[simp] theorem ent_sh (d:D):(R.sh d).ent=some (.sh d):=rfl
@[simp] theorem ent_fr (ds:List D):(R.fr ds).ent=some (.ow ds):=rfl
@[simp] theorem mN:cT []=true:=rfl
@[simp] theorem k8 (r:R) (rs:List R):cT (r::rs)=(!r.isBw&&cT rs):=rfl
@[simp] theorem flat_bl (b:Bool):(D.bl b).flat=true:=rfl
@[simp] theorem flat_int (b:Int):(D.int b).flat=true:=rfl
@[simp] theorem flat_non:D.non.flat=true:=rfl
@[simp] theorem sret_e:aR f δ=(f δ).bind fun r=>if r.isBw=true then none else some (.rt r):=rfl
@[simp] theorem sretv_e (i:Nat):jw i δ=match δ[i]? with
 | some (some (.ow ds))=>some (.rt (.fr ds))
 | some (some (.sh d))=>some (.rt (.sh d))
 | some (some (.nw d))=>some (.rn d)
 | _=>none:=rfl
@[simp] theorem bQ:sif t F G δ=(t δ).bind fun b=>if b=true then F δ else G δ:=rfl
@[simp] theorem e8:av F G δ=(F δ).bind (Res.thn G):=rfl
@[simp] theorem thn_nx (δ:DSt):Res.thn G (.nx δ)=G δ:=rfl
@[simp] theorem thn_rt (r:R):Res.thn G (.rt r)=some (.rt r):=rfl
@[simp] theorem thn_rn (d:D):Res.thn G (.rn d)=some (.rn d):=rfl
@[simp] theorem sskip_e:aE δ=some (.nx δ):=rfl
@[simp] theorem sset_e (i:Nat):sset i f δ=(f δ).bind fun r=>r.ent.bind fun en=>some (.nx (δ.set i (some en))):=rfl
@[simp] theorem ff (i:Nat):dO i F δ=F (frz i δ):=rfl
@[simp] theorem run_e (k:Nat) (F:FS) (ds:List D):Ew.run k F ds=match F (ds.map (fun d=>some (.sh d))++List.replicate (k-ds.length) none) with
 | some (.rt r)=>if r.isBw=true then none else some r.view
 | some (.nx _)=>some .non
 | some (.rn d)=>some d
 | _=>none:=rfl
@[simp] theorem isC_self (a:Addr):isC a a=true:=by unfold isC;simp
@[simp] theorem oAdd_ii (i j:Int):be (.int i) (.int j)=some (.sh (.int (i+j))):=rfl
@[simp] theorem oSub_ii (i j:Int):fJ (.int i) (.int j)=some (.sh (.int (i-j))):=rfl
@[simp] theorem oLt_ii (i j:Int):oLt (.int i) (.int j)=some (.sh (.bl (decide (i<j)))):=rfl
@[simp] theorem oLe_ii (i j:Int):oLe (.int i) (.int j)=some (.sh (.bl (decide (i≤j)))):=rfl
@[simp] theorem oGt_ii (i j:Int):oGt (.int i) (.int j)=some (.sh (.bl (decide (j<i)))):=rfl
@[simp] theorem oGe_ii (i j:Int):oGe (.int i) (.int j)=some (.sh (.bl (decide (j≤i)))):=rfl
@[simp] theorem oLen_l (xs:List D):eM (.lst xs)=some (.sh (.int xs.length)):=rfl
@[simp] theorem oList_l (xs:List D):k6 (.lst xs)=some (.fr xs):=rfl
@[simp] theorem oList_t (xs:List D):k6 (.tup xs)=some (.fr xs):=rfl
@[simp] theorem oMin2_ii (i j:Int):ft (.int i) (.int j)=some (.sh (.int (if j<i then j else i))):=rfl
@[simp] theorem oMax2_ii (i j:Int):gV (.int i) (.int j)=some (.sh (.int (if j>i then j else i))):=rfl
@[simp] theorem oIx_l (xs:List D) (i:Int):oIx (.lst xs) (.int i)=(atI xs i).map .sh:=rfl
@[simp] theorem oIx_t (xs:List D) (i:Int):oIx (.tup xs) (.int i)=(atI xs i).map .sh:=rfl
@[simp] theorem dcomp_e (fi:DSt→Option (List D)) (g:GD) (c:DSt→Option Bool) (fe:FE) (m:Nat) (ix:List Nat):bI fi g c fe m ix δ=(fi δ).bind fun items=>if items.length≤big then (cn g c fe (dIn m ix δ) items).map .fr else none:=rfl
@[simp] theorem cJ:aW f δ=(f δ).bind fun r=>if r.isBw=true then none else match r.view with
 | .lst ds=>some ds
 | _=>none:=rfl
@[simp] theorem cyes_e:eL δ=some true:=rfl
theorem ce (g:GD) (c:DSt→Option Bool) (fe:FE) (δ:DSt) {α:Type} (enc:α→D) (p:α→Bool) (out:α→D) (xs:List α)
  (h:∀ x∈xs,∃ δ1,g (enc x) δ=some δ1∧c δ1=some (p x)∧(p x=true→∃ r,fe δ1=some r∧r.isBw=false∧r.view=out x)) :
  cn g c fe δ (xs.map enc)=some ((xs.filter p).map out):=by
 induction xs with
 | nil=>rfl
 | cons x xs ih=>
  obtain ⟨δ1,h1,h2,h3⟩:=h x List.mem_cons_self
  have ih:=ih fun y hy=>h y (List.mem_cons_of_mem _ hy)
  rw [List.map_cons]
  unfold cn
  rw [h1]
  show ((c δ1).bind fun b=>if b=true then (fe δ1).bind fun r1=>if r1.isBw=true then none else (cn g c fe δ (xs.map enc)).bind fun t=>some (r1.view::t) else cn g c fe δ (xs.map enc))=_
  rw [h2]
  show (if p x=true then (fe δ1).bind fun r1=>if r1.isBw=true then none else (cn g c fe δ (xs.map enc)).bind fun t=>some (r1.view::t) else cn g c fe δ (xs.map enc))=_
  by_cases hp:p x=true
  ·
   obtain ⟨r,e1,e2,e3⟩:=h3 hp
   rw [if_pos hp,e1,ih]
   simp [e2,e3,hp,List.filter_cons]
  ·
   rw [if_neg hp,ih]
   simp [hp,List.filter_cons]
theorem c9 (i:Int):okD (.int i)=true:=by unfold okD;simp [D.plain,D.py,PyData.canLay0,PyData.depth]
theorem jY (i j:Int):eqP (.int i) (.int j)=decide (i=j):=by unfold eqP;simp [D.py,PyData.eqv];rfl
@[simp] theorem oEq_ii (i j:Int):oEq (.int i) (.int j)=some (.sh (.bl (decide (i=j)))):=by unfold oEq;rw [if_pos ⟨c9 i,c9 j⟩,jY]
@[simp] theorem oNe_ii (i j:Int):oNe (.int i) (.int j)=some (.sh (.bl (!decide (i=j)))):=by unfold oNe;rw [if_pos ⟨c9 i,c9 j⟩,jY]
theorem mO (ns:List Int):pys (ns.map .int)=ns.map PyData.int:=by rw [fK,List.map_map];rfl
theorem hX:∀ ds:List D,gu ds=ds.all D.plain
 | []=>by unfold gu;rfl
 | d::ds=>by unfold gu;rw [hX ds];rfl
theorem fg:∀ ds:List PyData,PyData.canLayAll0 ds=ds.all PyData.canLay0
 | []=>by unfold PyData.canLayAll0;rfl
 | d::ds=>by unfold PyData.canLayAll0;rw [fg ds];rfl
theorem gw {k:Nat}:∀ {ds:List PyData},(∀ d∈ds,d.depth≤k)→PyData.depthAll ds≤k
 | [],_=>by unfold PyData.depthAll;exact Nat.zero_le _
 | d::ds,h=>by
  unfold PyData.depthAll
  exact Nat.max_le.mpr ⟨h d List.mem_cons_self,gw fun e he=>h e (List.mem_cons_of_mem _ he)⟩
theorem mP {ds:List D} (h:∀ d∈ds,d.plain=true∧d.py.canLay0=true∧d.py.depth≤15):okD (.lst ds)=true:=by
 unfold okD
 rw [Bool.and_eq_true,Bool.and_eq_true]
 refine ⟨?_,?_,?_⟩
 ·
  unfold D.plain;rw [hX];exact List.all_eq_true.mpr fun d hd=>(h d hd).1
 ·
  unfold D.py PyData.canLay0;rw [fg,fK];exact List.all_eq_true.mpr fun d hd=>by
   obtain ⟨e,he,rfl⟩:=List.mem_map.mp hd
   exact (h e he).2.1
 ·
  unfold D.py PyData.depth
  refine decide_eq_true ?_
  have:=gw (k:=15) (ds:=pys ds) fun d hd=>by
   rw [fK] at hd
   obtain ⟨e,he,rfl⟩:=List.mem_map.mp hd
   exact (h e he).2.2
  omega
theorem fw (ns:List Int):okD (.lst (ns.map .int))=true:=mP fun d hd=>by
 obtain ⟨i,_,rfl⟩:=List.mem_map.mp hd
 obtain ⟨a,b,c⟩:=bF (c9 i)
 exact ⟨a,b,by unfold D.py PyData.depth;omega⟩
theorem jy:∀ (ns ms:List Int),PyData.eqvAll (ns.map PyData.int) (ms.map PyData.int)=decide (ns=ms)
 | [],[]=>by simp [PyData.eqvAll]
 | [],_::_=>by simp [PyData.eqvAll]
 | _::_,[]=>by simp [PyData.eqvAll]
 | n::ns,m::ms=>by
  simp only [List.map_cons,PyData.eqvAll,PyData.eqv,jy ns ms]
  by_cases h:n=m
  ·
   subst h;simp
  ·
   simp [h]
@[simp] theorem iF (ns ms:List Int):oEq (.lst (ns.map .int)) (.lst (ms.map .int))=some (.sh (.bl (decide (ns=ms)))):=by
 unfold oEq
 rw [if_pos ⟨fw ns,fw ms⟩]
 unfold eqP D.py PyData.eqv
 rw [mO,mO,jy]
theorem any_int (i:Int) (ns:List Int):((ns.map D.int).any fun y=>eqP y (.int i))=ns.contains i:=by
 rw [List.any_map,List.contains_eq_any_beq]
 congr 1
 funext y
 show eqP (.int y) (.int i)=(i==y)
 rw [jY,Bool.beq_eq_decide_eq]
 exact decide_eq_decide.mpr ⟨Eq.symm,Eq.symm⟩
@[simp] theorem oIn_ints (i:Int) (ns:List Int):oIn (.int i) (.lst (ns.map .int))=some (.sh (.bl (ns.contains i))):=by
 show (if okD (D.int i)=true∧okD (D.lst (List.map D.int ns))=true then some (R.sh (D.bl ((ns.map D.int).any fun y=>eqP y (D.int i)))) else none)=_
 rw [if_pos ⟨c9 i,fw ns⟩,any_int]
@[simp] theorem oNotIn_ints (i:Int) (ns:List Int):oNotIn (.int i) (.lst (ns.map .int))=some (.sh (.bl (!ns.contains i))):=by
 show (if okD (D.int i)=true∧okD (D.lst (List.map D.int ns))=true then some (R.sh (D.bl (!(ns.map D.int).any fun y=>eqP y (D.int i)))) else none)=_
 rw [if_pos ⟨c9 i,fw ns⟩,any_int]
end
end Ew
end
section
set_option Elab.async false
set_option linter.all false
set_option maxRecDepth 100000
namespace Ew
open PySem PySem.Spec L2
def tN (f:DSt→Option D):TE:=fun σ H Q=>∃ Hs δ d,aH Hs H∧eZ Hs H δ σ∧f δ=some d∧∀ v Hs' H' L,Wd H Hs Hs' H'→Own H' d v L→(∀ a∈L,H a=none∧Hs' a=none)→Q v H'
structure DN (X:Cx) (e:Expr) (f:DSt→Option D):Prop where
 go:PE X e (tN f)
def tNA (f:DSt→Option (List D)):TA:=fun σ H Q=>∃ Hs δ ds,aH Hs H∧eZ Hs H δ σ∧f δ=some ds∧∀ vs Hs' H' L,Wd H Hs Hs' H'→aF H' ds vs L→(∀ a∈L,H a=none∧Hs' a=none)→Q vs H'
structure DNA (X:Cx) (es:List Expr) (f:DSt→Option (List D)):Prop where
 go:PA X es (tNA f)
abbrev FN:=DSt→Option D
theorem Own.flat {H Hs:Hp} {d:D} {v:V} (hf:d.flat=true) (h:Rep Hs d v):Own H d v []:=by
 cases d with
 | lst _=>cases hf
 | tup _=>cases hf
 | obj _ _=>cases hf
 | _=>unfold Rep at h;unfold Own;exact ⟨h,rfl⟩
theorem aF.flat {H Hs:Hp}:∀ {ds:List D} {vs:List V},(ds.all D.flat)=true→ay Hs ds vs→aF H ds vs []
 | [],_,_,h=>by unfold ay at h;unfold aF;exact ⟨h,rfl⟩
 | d::ds,_,hf,h=>by
  unfold ay at h
  obtain ⟨v,r,e,h1,h2⟩:=h
  rw [List.all_cons,Bool.and_eq_true] at hf
  unfold aF
  exact ⟨v,r,[],[],e,Own.flat hf.1 h1,aF.flat hf.2 h2,fun _ z=>(by cases z),rfl⟩
theorem aF.length {H:Hp}:∀ {ds:List D} {vs:List V} {L:List Addr},aF H ds vs L→vs.length=ds.length
 | [],_,_,h=>by unfold aF at h;rw [h.1];rfl
 | d::ds,_,_,h=>by
  unfold aF at h
  obtain ⟨v,r,M,N,e,h1,h2,_⟩:=h
  rw [e];simp [aF.length h2]
def R.toN:R→Option D
 | .sh d=>if d.flat=true then some d else none
 | .fr ds=>if ds.all D.flat=true then some (.lst ds) else none
 | .bw _=>none
def eQ (f:FE):FN:=fun δ=>(f δ).bind R.toN
section
variable {X:Cx} {e a b c:Expr} {es:List Expr} {f:FE} {g h:FN} {gs:DSt→Option (List D)} {fr:DSt→Option (List R)} {pos:Pos} {n:Nat} {m:List D→Option D} {E:XK}
theorem cV.toN {H0 Hs H:Hp} {r:R} {v:V} {d:D} (h:cV H0 Hs H r v) (e:r.toN=some d):∃ L,Own H d v L∧∀ a∈L,H0 a=none∧Hs a=none:=by
 cases r with
 | sh d'=>
  replace e:(if d'.flat=true then some d' else none)=some d:=e
  by_cases hf:d'.flat=true
  ·
   rw [if_pos hf] at e;cases e
   exact ⟨[],Own.flat hf h,fun _ z=>by cases z⟩
  ·
   rw [if_neg hf] at e;cases e
 | fr ds=>
  replace e:(if ds.all D.flat=true then some (D.lst ds) else none)=some d:=e
  by_cases hf:ds.all D.flat=true
  ·
   rw [if_pos hf] at e;cases e
   obtain ⟨a,vs,e1,n1,m1,h1,h2⟩:=h
   refine ⟨[a],?_,fun b hb=>?_⟩
   ·
    unfold Own
    exact ⟨a,vs,[],e1,h1,aF.flat hf h2,fun z=>(by cases z),rfl⟩
   ·
    rcases List.mem_cons.mp hb with rfl | hb
    ·
     exact ⟨n1,m1⟩
    ·
     cases hb
  ·
   rw [if_neg hf] at e;cases e
 | bw ds=>cases e
theorem dS (h:DE X e f):DN X e (eQ f):=.mk <| h.go.weak fun σ H Q ⟨Hs,δ,d,S,En,e,K⟩=>by
 unfold eQ at e
 cases ef:f δ with
 | none=>rw [ef] at e;cases e
 | some r=>
  rw [ef] at e
  refine ⟨Hs,δ,r,S,En,ef,fun v Hs1 H1 W1 R1=>?_⟩
  obtain ⟨L,o,n⟩:=R1.toN e
  exact K v Hs1 H1 L W1 o n
def dnw (g:FN):FE:=fun δ=>(g δ).map .sh
theorem de_dn (h:DN X e g):DE X e (dnw g):=.mk <| h.go.weak fun σ H Q ⟨Hs,δ,r,S,En,e,K⟩=>by
 unfold dnw at e
 cases ef:g δ with
 | none=>rw [ef] at e;cases e
 | some d=>
  rw [ef] at e;cases e
  refine ⟨Hs,δ,d,S,En,ef,fun v Hs1 H1 L W1 o n=>?_⟩
  obtain ⟨Hs2,q,s1,s2,s3⟩:=o.share W1.sub fun a ha=>(n a ha).2
  exact K v Hs2 H1 ⟨W1.keep,s1,W1.base.trans s2,fun a o e=>(s3 a o e).elim (W1.new a o) fun z=>.inr (n a z).1⟩ q
def nanil:DSt→Option (List D):=fun _=>some []
def fQ (g:FN) (gs:DSt→Option (List D)):DSt→Option (List D):=fun δ=>(g δ).bind fun d=>(gs δ).bind fun ds=>some (d::ds)
theorem dna_nil:DNA X [] nanil:=.mk <| dY.weak fun σ H Q ⟨Hs,δ,r,S,En,e,K⟩=>by
 cases e
 exact K [] Hs H [] (.refl S) (by unfold aF;exact ⟨rfl,rfl⟩) fun _ z=>by cases z
theorem iG (ha:DN X e g) (hr:DNA X es gs) (hs:starEach (e::es) X.env=(false,eval e X.env)::starEach es X.env:=by exact bx rfl):DNA X (e::es) (fQ g gs):=
 .mk <| (bZ ha.go hr.go hs).weak fun σ H Q ⟨Hs,δ,r,S,En,e,K⟩=>by
  unfold fQ at e
  cases ea:g δ with
  | none=>rw [ea] at e;cases e
  | some d=>
   cases eb:gs δ with
   | none=>rw [ea,eb] at e;cases e
   | some ds=>
    rw [ea,eb] at e
    cases e
    refine ⟨Hs,δ,d,S,En,ea,fun x Hs1 H1 L1 W1 O1 n1=>⟨Hs1,δ,ds,W1.sub,En.mono W1,eb,fun vs Hs2 H2 L2 W2 O2 n2=>?_⟩⟩
    refine K (x::vs) Hs2 H2 (L1++L2) (W1.trans W2) ?_ fun a ha=>?_
    ·
     unfold aF
     refine ⟨x,vs,L1,L2,rfl,O1.mono W2.keep,O2,fun a h1 h2=>?_,rfl⟩
     obtain ⟨o,ho⟩:=Own.cell _ O1 a h1
     rw [(n2 a h2).1] at ho;cases ho
    ·
     rcases List.mem_append.mp ha with h1 | h2
     ·
      obtain ⟨o,ho⟩:=Own.cell _ O1 a h1
      exact ⟨(n1 a h1).1,W2.stay ho (n1 a h1).2⟩
     ·
      exact ⟨W1.keep.free (n2 a h2).1,(n2 a h2).2⟩
def ntup (gs:DSt→Option (List D)):FN:=fun δ=>(gs δ).bind fun ds=>if ds.length≤big then some (.tup ds) else none
def nlst (gs:DSt→Option (List D)):FN:=fun δ=>(gs δ).bind fun ds=>if ds.length≤big then some (.lst ds) else none
theorem dn_tup {x1} (h:DNA X es gs):DN X (.Tuple es x1 pos) (ntup gs):=.mk <| (pe_tup h.go).weak fun σ H Q ⟨Hs,δ,r,S,En,e,K⟩=>by
 unfold ntup at e
 cases ea:gs δ with
 | none=>rw [ea] at e;cases e
 | some ds=>
  rw [ea] at e
  replace e:(if ds.length≤big then some (D.tup ds) else none)=some r:=e
  by_cases hc:ds.length≤big
  ·
   rw [if_pos hc] at e
   cases e
   refine ⟨Hs,δ,ds,S,En,ea,fun vs Hs1 H1 L W1 O n=>⟨?_,fun p hp=>?_⟩⟩
   ·
    rw [O.length];exact Nat.le_of_lt (bP hc)
   ·
    have np:p∉L:=fun z=>by
     obtain ⟨o,ho⟩:=aF.cell _ O p z
     rw [hp] at ho;cases ho
    refine K _ Hs1 _ (p::L) (W1.trans (.fresh W1.sub hp)) ?_ fun a ha=>?_
    ·
     unfold Own
     exact ⟨p,vs,L,rfl,ax,O.mono (.new hp),np,rfl⟩
    ·
     rcases List.mem_cons.mp ha with rfl | ha
     ·
      exact ⟨W1.keep.free hp,W1.sub.free hp⟩
     ·
      exact n a ha
  ·
   rw [if_neg hc] at e;cases e
def nif (t:DSt→Option Bool) (g h:FN):FN:=fun δ=>(t δ).bind fun k=>if k=true then g δ else h δ
theorem dn_ifExp {tf:DSt→Option Bool} (hc:DT X c tf) (ha:DN X a g) (hb:DN X b h):DN X (.IfExp c a b pos) (nif tf g h):=.mk <| (mq hc.go ha.go hb.go).weak fun σ H Q ⟨Hs,δ,r,S,En,e,K⟩=>by
 unfold nif at e
 cases ea:tf δ with
 | none=>rw [ea] at e;cases e
 | some k=>
  rw [ea] at e
  refine ⟨Hs,δ,k,S,En,ea,fun Hs1 H1 W1=>?_⟩
  have key:∀ {g':FN},g' δ=some r→tN g' σ H1 Q:=fun e=>⟨Hs1,δ,r,W1.sub,En.mono W1,e,fun v Hs2 H2 L W2 O n=>K v Hs2 H2 L (W1.trans W2) O fun a ha=>⟨W1.keep.free (n a ha).1,(n a ha).2⟩⟩
  cases k with
  | true=>show (if true=true then tN g σ H1 Q else tN h σ H1 Q);rw [if_pos rfl];exact key e
  | false=>show (if false=true then tN g σ H1 Q else tN h σ H1 Q);rw [if_neg Bool.false_ne_true];exact key e
end
def spN (n:Nat) (m:List D→Option D):Sp:=fun vs H Q _=>∃ Hs ds d,ds.length=n∧aH Hs H∧ay Hs ds vs∧m ds=some d∧∀ v Hs' H' L,Wd H Hs Hs' H'→Own H' d v L→(∀ a∈L,H a=none∧Hs' a=none)→Q v H'
theorem spN_len {n:Nat} {m:List D→Option D} {vs:List V} {H:Hp} {Q:VK} {E:XK} (h:spN n m vs H Q E):vs.length=n:=by
 obtain ⟨Hs,ds,d,e,_,r,_⟩:=h
 rw [r.length,e]
def f9 (n:Nat) (m:List D→Option D) (fa:DSt→Option (List R)):FN:=fun δ=>(fa δ).bind fun rs=>if rs.length=n∧cT rs=true then m (rs.map R.view) else none
theorem tN_call {n:Nat} {m:List D→Option D} {fr:DSt→Option (List R)} {E:XK} {σ:St} {H:Hp} {Q:VK} (h:tN (f9 n m fr) σ H Q):tCall (spN n m) [] E (tDA fr) σ H Q:=by
 obtain ⟨Hs,δ,r,S,En,e,K⟩:=h
 unfold f9 at e
 cases ea:fr δ with
 | none=>rw [ea] at e;cases e
 | some rs=>
  rw [ea] at e
  refine ⟨Hs,δ,rs,S,En,ea,fun vs Hs1 H1 W1 R1=>?_⟩
  replace e:(if rs.length=n∧cT rs=true then m (rs.map R.view) else none)=some r:=e
  by_cases hc:rs.length=n∧cT rs=true
  ·
   rw [if_pos hc] at e
   show spN n m (vs++[]) H1 Q E
   rw [List.append_nil]
   obtain ⟨Hs2,q1,q2,q3,q4⟩:=R1.freeze W1.sub
   have W2:Wd H Hs Hs2 H1:=⟨W1.keep,q2,W1.base.trans q3,fun a o e=>by
    rcases q4 (im hc.2) a o e with z | z
    ·
     exact W1.new a o z
    ·
     exact .inr z⟩
   exact ⟨Hs2,_,r,by rw [List.length_map];exact hc.1,q2,q1,e,fun v Hs3 H3 L W3 O n=>K v Hs3 H3 L (W2.trans W3) O fun a ha=>⟨W1.keep.free (n a ha).1,(n a ha).2⟩⟩
  ·
   rw [if_neg hc] at e;cases e
def runN (k:Nat) (F:FS) (ds:List D):Option D:=match F (ds.map (fun d=>some (.sh d))++List.replicate (k-ds.length) none) with
 | some (.rt r)=>r.toN
 | some (.nx _)=>some .non
 | some (.rn d)=>some d
 | _=>none
section
variable {P:Program} {w:World} {K:PySem.W.Frag} {mg:Str→Option Value} {base:Heap}
theorem fn_N {x qual:Str} {st:Stmt} {f:Addr} {fd:FuncData} {N ps:List Str} {k:Nat} {F:FS} (F0:Fun K x qual st f fd) (S:dM N ps (ap st))
  (h:∀ (cdv:Value) (A:Around) (outer:List Env) (s:Shared) (H:Hp) (E:XK),bq k (A.deeper (PyProof.Rows.envOfC qual (ap st) s.heap.objs.size f cdv))→DSs (jJ CX0 P w K mg base N qual (ap st) f cdv A outer s H E).nox (aQ st) F) :
  dL P w K mg base CX0 (k+1) f fd ps (spN ps.length (runN N.length F)):=by
 refine F0.ok S (fun vs H Q E hs=>spN_len hs) (fun cdv A outer s H vs Q E hr hs=>?_)
 obtain ⟨Hs,ds,d,hl,sub,r,em,post⟩:=hs
 refine ⟨_,(h cdv A outer s H E hr).go H Hs,?_⟩
 unfold runN at em
 cases eF:F (ds.map (fun d=>some (.sh d))++List.replicate (N.length-ds.length) none) with
 | none=>rw [eF] at em;cases em
 | some res=>
  rw [eF] at em
  refine ⟨Hs,_,res,.refl sub,mE r,eF,?_⟩
  cases res with
  | nx δ=>
   cases em
   exact fun σ Hs1 H1 W1 _=>post .non Hs1 H1 [] W1 (by unfold Own;exact ⟨rfl,rfl⟩) fun _ z=>by cases z
  | rt r1=>
   intro v Hs1 H1 W1 R1
   obtain ⟨L,o,n⟩:=R1.toN em
   exact post v Hs1 H1 L W1 o n
  | bk δ=>cases em
  | ct δ=>cases em
  | rn d'=>
   cases em
   exact fun v Hs1 H1 L W1 O n=>post v Hs1 H1 L W1 O n
end
def gX (i:Nat) (g:FN):FS:=fun δ=>(g δ).bind fun d=>some (.nx (δ.set i (some (.nw d))))
def iH (g:FN):FS:=fun δ=>(g δ).bind fun d=>some (.rn d)
section
variable {X:Cx} {e:Expr} {g:FN} {pos:Pos}
theorem ts_setN {H0 Hs0:Hp} {i:Nat} {D:Ends} {σ:St} {H:Hp} (h:tS H0 Hs0 (gX i g) D σ H):tAsg (tN g) (kR i) D σ H:=by
 obtain ⟨Hs,δ,res,W,S,e,P⟩:=h
 unfold gX at e
 cases et:g δ with
 | none=>rw [et] at e;cases e
 | some d=>
  rw [et] at e
  cases e
  refine ⟨Hs,δ,d,W.sub,S.ent,et,fun v Hs1 H1 L W1 O n=>P _ Hs1 H1 (W.trans W1) (S.put W.keep W1 ⟨L,O,fun a ha=>(n a ha).2⟩ fun b ⟨L',O',hb⟩=>?_)⟩
  rw [Own.uniq d O' O] at hb
  exact (n b hb).1
theorem ds_setN {i:Nat} {x:Str} {pos':Pos} (hN:X.N.Nodup) (hi:X.N[i]?=some x) (hx:Loc X.env.scope x) (he:DN X e g) (hs:swapsWith e (some (.Name x pos')) pos.line X.env=pure false:=by rfl)
 (hf:X.fn x=true∨X.env.scope.names.lookup x=some .local:=by first | exact .inl rfl | exact .inr rfl | assumption):DS X (.Assign [.Name x pos'] e pos) (gX i g):=.mk fun H0 Hs0=>(ps_set hN hi hx he.go hs hf).weak fun _ _ _=>ts_setN
theorem iI (h:DN X e g):DS X (.Return (some e) pos) (iH g):=.mk fun H0 Hs0=>(ps_ret h.go).weak fun D σ H ⟨Hs,δ,res,W,S,e,P⟩=>by
 unfold iH at e
 cases et:g δ with
 | none=>rw [et] at e;cases e
 | some d=>
  rw [et] at e
  cases e
  exact ⟨Hs,δ,d,W.sub,S.ent,et,fun v Hs1 H1 L W1 O n=>P v Hs1 H1 L (W.trans W1) O fun a ha=>⟨W.keep.free (n a ha).1,(n a ha).2⟩⟩
end
end Ew
end
section
set_option Elab.async false
set_option linter.all false
set_option maxRecDepth 100000
namespace Ew
open PySem PySem.Spec L2
theorem aF.snoc {H:Hp}:∀ {ds:List D} {vs:List V} {L M:List Addr} {d:D} {v:V},aF H ds vs L→Own H d v M→(∀ a∈L,a∉M)→aF H (ds++[d]) (vs++[v]) (L++M)
 | [],_,_,M,d,v,h,h',n=>by
  unfold aF at h
  obtain ⟨rfl,rfl⟩:=h
  show aF H [d] [v] M
  unfold aF
  exact ⟨v,[],M,[],rfl,h',by unfold aF;exact ⟨rfl,rfl⟩,fun _ _ z=>(by cases z),by simp⟩
 | c::ds,_,_,M,d,v,h,h',n=>by
  unfold aF at h
  obtain ⟨u,r,A,B,rfl,h1,h2,k,rfl⟩:=h
  have:=aF.snoc h2 h' fun a ha=>n a (List.mem_append_right _ ha)
  show aF H (c::(ds++[d])) (u::(r++[v])) _
  unfold aF
  refine ⟨u,r++[v],A,B++M,rfl,h1,this,fun a ha hb=>?_,by simp⟩
  rcases List.mem_append.mp hb with hb | hb
  ·
   exact k a ha hb
  ·
   exact n a (List.mem_append_left _ ha) hb
def cC (g:GD) (c:DSt→Option Bool) (fe:FN) (δ:DSt):List D→Option (List D)
 | []=>some []
 | d::r=>(g d δ).bind fun δ1=>(c δ1).bind fun b=>if b=true then (fe δ1).bind fun r1=>(cC g c fe δ r).bind fun t=>some (r1::t) else cC g c fe δ r
def k9 (fi:DSt→Option (List D)) (g:GD) (c:DSt→Option Bool) (fe:FN) (m:Nat) (ix:List Nat):FN:=fun δ=>(fi δ).bind fun items=>if items.length≤big then (cC g c fe (dIn m ix δ) items).map .lst else none
theorem tN_comp {fi:DSt→Option (List D)} {ks:List Nat} {g:GD} {c:DSt→Option Bool} {fe:FN} {m:Nat} {ix:List Nat} (hk:∀ j∈ks,j<m) {σ:St} {H:Hp} {Q:VK} (h:tN (k9 fi g c fe m ix) σ H Q) :
  tComp (tI fi) (tG ks g) (tDT c) (tN fe) m ix σ H Q:=by
 obtain ⟨Hs,δ,r,S,En,e,K⟩:=h
 unfold k9 at e
 cases ei:fi δ with
 | none=>rw [ei] at e;cases e
 | some items=>
  rw [ei] at e
  replace e:(if items.length≤big then (cC g c fe (dIn m ix δ) items).map D.lst else none)=some r:=e
  by_cases hbig:items.length≤big
  ·
   rw [if_pos hbig] at e
   cases em:cC g c fe (dIn m ix δ) items with
   | none=>rw [em] at e;cases e
   | some out=>
    rw [em] at e
    cases e
    refine ⟨Hs,δ,items,S,En,ei,fun J Hs1 H1 W1 Y A hA=>?_⟩
    have En1:eZ Hs1 H1 (dIn m ix δ) (fG m ix σ):=entIn m ix (En.mono W1)
    have len1:(fG m ix σ).length=(dIn m ix δ).length:=by unfold fG dIn;simp
    have hA1:Hs1 A=none:=W1.sub.free hA
    refine ⟨fun i n σ' H'=>n=items.length-i∧i≤items.length∧σ'.length=(dIn m ix δ).length∧(∀ j,m≤j→σ'[j]?=(fG m ix σ)[j]?)∧
     ∃ Hs' ds vs rest L,Wd H1 Hs1 Hs' H'∧Hs' A=none∧H' A=some (.lst vs)∧aF H' ds vs L∧(∀ a∈L,H1 a=none∧Hs' a=none∧a≠A)∧ds.length≤i∧cC g c fe (dIn m ix δ) (items.drop i)=some rest∧out=ds++rest,?_,?_⟩
    ·
     refine ⟨items.length,by simp,Nat.zero_le _,len1,fun _ _=>rfl,Hs1,[],[],out,[],⟨.new hA,W1.sub.trans (.new hA),.refl _,fun _ _ e=>.inl e⟩,hA1,ax,by unfold aF;exact ⟨rfl,rfl⟩,fun _ z=>(by cases z),Nat.zero_le _,by simpa using em,by simp⟩
    ·
     rintro i n σ1 H2 ⟨rfl,hi,hl1,hσ1,Hs2,ds,vs,rest,L,W2,hA2,hv2,r2,nL,hd2,e2,eo⟩
     by_cases hlt:i<items.length
     ·
      have hd:items[i]?=some items[i]:=by simp [hlt]
      obtain ⟨go,yl⟩:=(Y i Hs2 H2 W2.base W2.sub).1 _ hd
      refine .inr ⟨go,fun σ' H'=>i+1≤items.length∧σ'.length=(dIn m ix δ).length∧(∀ j,m≤j→σ'[j]?=(fG m ix σ)[j]?)∧
       ∃ Hs' ds vs rest L,Wd H1 Hs1 Hs' H'∧Hs' A=none∧H' A=some (.lst vs)∧aF H' ds vs L∧(∀ a∈L,H1 a=none∧Hs' a=none∧a≠A)∧ds.length≤i+1∧cC g c fe (dIn m ix δ) (items.drop (i+1))=some rest∧out=ds++rest,
       fun σ' H' ⟨a,b,c',d'⟩=>⟨_,by omega,rfl,a,b,c',d'⟩,fun x H3 y=>?_⟩
      obtain ⟨Hs3,W3,rx⟩:=yl x H3 y
      have W13:=W2.trans W3
      have A3:=W3.stay hv2 hA2
      have v3:=W3.keep _ _ hv2
      have En3:eZ Hs3 H3 (dIn m ix δ) σ1:=fun j en q=>by
       obtain ⟨v,hv,hr⟩:=(En1.mono W13) j en q
       exact ⟨v,by rw [hσ1 j (dIn_own q)];exact hv,hr⟩
      rw [List.drop_eq_getElem_cons hlt] at e2
      unfold cC at e2
      cases eg:g items[i] (dIn m ix δ) with
      | none=>rw [eg] at e2;cases e2
      | some δ2=>
       rw [eg] at e2
       refine ⟨Hs3,_,items[i],δ2,W3.sub,hl1,rx,eg,fun σ4 sr=>?_⟩
       have hl4:σ4.length=(dIn m ix δ).length:=by rw [sr.lenS];exact hl1
       have hσ4:∀ j,m≤j→σ4[j]?=(fG m ix σ)[j]?:=fun j hj=>by
        rw [(sr.out j fun z=>Nat.not_lt.mpr hj (hk j z)).2];exact hσ1 j hj
       have En4:eZ Hs3 H3 δ2 σ4:=sr.ent En3
       replace e2:((c δ2).bind fun b=>if b=true then (fe δ2).bind fun r1=>(cC g c fe (dIn m ix δ) (items.drop (i+1))).bind fun t=>some (r1::t) else cC g c fe (dIn m ix δ) (items.drop (i+1)))=some rest:=e2
       cases ec:c δ2 with
       | none=>rw [ec] at e2;cases e2
       | some b=>
        rw [ec] at e2
        refine ⟨Hs3,δ2,b,W3.sub,En4,ec,fun Hs5 H5 W5=>?_⟩
        have W15:=W13.trans W5
        have A5:=W5.stay v3 A3
        have v5:=W5.keep _ _ v3
        have k25:aH H2 H5:=W3.keep.trans W5.keep
        have nL5:∀ a∈L,H1 a=none∧Hs5 a=none∧a≠A:=fun a ha=>by
         obtain ⟨o,ho⟩:=aF.cell _ r2 a ha
         exact ⟨(nL a ha).1,W5.stay (W3.keep _ _ ho) (W3.stay ho (nL a ha).2.1),(nL a ha).2.2⟩
        cases b with
        | false=>
         simp only [Bool.false_eq_true,if_false]
         exact ⟨hlt,hl4,hσ4,Hs5,ds,vs,rest,L,W15,A5,v5,r2.mono k25,nL5,by omega,e2,eo⟩
        | true=>
         simp only [if_true]
         replace e2:((fe δ2).bind fun r1=>(cC g c fe (dIn m ix δ) (items.drop (i+1))).bind fun t=>some (r1::t))=some rest:=e2
         cases ef:fe δ2 with
         | none=>rw [ef] at e2;cases e2
         | some r1=>
          rw [ef] at e2
          replace e2:((cC g c fe (dIn m ix δ) (items.drop (i+1))).bind fun t=>some (r1::t))=some rest:=e2
          cases er:cC g c fe (dIn m ix δ) (items.drop (i+1)) with
          | none=>rw [er] at e2;cases e2
          | some t=>
           rw [er] at e2
           cases e2
           refine ⟨Hs5,δ2,r1,W5.sub,En4.mono W5,ef,fun v Hs7 H6 M W7 O6 n6=>?_⟩
           have A7:=W7.stay v5 A5
           have v7:=W7.keep _ _ v5
           have W17:=W15.trans W7
           have nA:H1 A=none:=hA
           have r5:=r2.mono k25
           have dj:∀ a∈L,a∉M:=fun a ha hm=>by
            obtain ⟨o,ho⟩:=aF.cell _ r5 a ha
            rw [(n6 a hm).1] at ho;cases ho
           have nM:∀ a∈M,a≠A:=fun a ha z=>by
            have:=(n6 a ha).1
            rw [z,v5] at this;cases this
           have nLM:∀ a∈L++M,H1 a=none∧Hs7 a=none∧a≠A:=fun a ha=>by
            rcases List.mem_append.mp ha with h | h
            ·
             obtain ⟨o,ho⟩:=aF.cell _ r5 a h
             exact ⟨(nL5 a h).1,W7.stay ho (nL5 a h).2.1,(nL5 a h).2.2⟩
            ·
             exact ⟨W15.keep.free (n6 a h).1,(n6 a h).2,nM a h⟩
           refine ⟨vs,v7,?_,hlt,hl4,hσ4,Hs7,ds++[r1],vs++[v],t,L++M,⟨fun b o q=>?_,fun b o q=>?_,W17.base,W17.new⟩,A7,ax,?_,nLM,by simp;omega,rfl,by rw [eo];simp⟩
           ·
            rw [r2.length];exact Nat.lt_of_le_of_lt hd2 (Nat.lt_trans hlt (bP hbig))
           ·
            rw [aA (aN q nA)];exact W17.keep _ _ q
           ·
            rw [aA (aN q A7)];exact W17.sub _ _ q
           ·
            exact ((r5.mono W7.keep).snoc O6 dj).agree _ fun a ha=>aA (nLM a ha).2.2
     ·
      have hi':i=items.length:=by omega
      subst hi'
      rw [List.drop_length] at e2
      cases e2
      refine .inl ⟨(Y _ Hs2 H2 W2.base W2.sub).2 (Nat.le_refl _),K _ Hs2 H2 (A::L) (W1.trans W2) ?_ fun a ha=>?_⟩
      ·
       rw [eo,List.append_nil]
       unfold Own
       exact ⟨A,vs,L,rfl,hv2,r2,fun z=>(nL A z).2.2 rfl,rfl⟩
      ·
       rcases List.mem_cons.mp ha with rfl | ha
       ·
        exact ⟨W1.keep.free hA,hA2⟩
       ·
        exact ⟨W1.keep.free (nL a ha).1,(nL a ha).2.1⟩
  ·
   rw [if_neg hbig] at e;cases e
section
variable {X:Cx} {tg elt iter:Expr} {ifs:List Expr} {scope:Scope} {pos:Pos} {N:List Str} {m:Nat} {ix:List Nat} {ks:List Nat} {g:GD} {c:DSt→Option Bool} {fe:FN} {fi:DSt→Option (List D)}
theorem dn_comp (hc:X.calm=true) (S:cU X N m ix scope) (hk:∀ j∈ks,j<m) (hi:DI X tg iter fi)
  (hin:∀ cl C s H fp,DG (bg X N scope cl C s H fp) tg ks g∧DIfs (bg X N scope cl C s H fp) ifs c∧DN (bg X N scope cl C s H fp) elt fe)
  (hs:∀ x,foldedSetIterable iter X.env x=pure x:=by intro _;rfl):DN X (.ListComp elt [⟨tg,iter,ifs,0⟩] scope pos) (k9 fi g c fe m ix):=.mk <|
 (pe_comp hc S hi.go (fun cl C s H fp=>⟨(hin cl C s H fp).1.go,(hin cl C s H fp).2.1.go,(hin cl C s H fp).2.2.go⟩) hs).weak fun _ _ _=>tN_comp hk
end
end Ew
end
section
set_option Elab.async false
set_option linter.all false
set_option maxRecDepth 100000
namespace Ew
open PySem PySem.Spec L2
theorem aU.snoc {H:Hp}:∀ {fs:List (Str×D)} {vs:List (Str×V)} {L M:List Addr} {f:Str} {d:D} {v:V},aU H fs vs L→Own H d v M→(∀ a∈L,a∉M)→aU H (fs++[(f,d)]) (vs++[(f,v)]) (L++M)
 | [],_,_,M,f,d,v,h,h',n=>by
  unfold aU at h
  obtain ⟨rfl,rfl⟩:=h
  show aU H [(f,d)] [(f,v)] M
  unfold aU
  exact ⟨v,[],M,[],rfl,h',by unfold aU;exact ⟨rfl,rfl⟩,fun _ _ z=>(by cases z),by simp⟩
 | c::fs,_,_,M,f,d,v,h,h',n=>by
  unfold aU at h
  obtain ⟨u,r,A,B,rfl,h1,h2,k,rfl⟩:=h
  have:=aU.snoc (f:=f) h2 h' fun a ha=>n a (List.mem_append_right _ ha)
  show aU H (c::(fs++[(f,d)])) ((c.1,u)::(r++[(f,v)])) _
  unfold aU
  refine ⟨u,r++[(f,v)],A,B++M,rfl,h1,this,fun a ha hb=>?_,by simp⟩
  rcases List.mem_append.mp hb with hb | hb
  ·
   exact k a ha hb
  ·
   exact n a (List.mem_append_left _ ha) hb
theorem aU.length {H:Hp}:∀ {fs:List (Str×D)} {vs:List (Str×V)} {L:List Addr},aU H fs vs L→vs.length=fs.length
 | [],_,_,h=>by unfold aU at h;rw [h.1];rfl
 | d::ds,_,_,h=>by
  unfold aU at h
  obtain ⟨v,r,M,N,e,h1,h2,_⟩:=h
  rw [e];simp [aU.length h2]
theorem aU.put_none {H:Hp} {f:Str} {v:V}:∀ {fs:List (Str×D)} {vs:List (Str×V)} {L:List Addr},aU H fs vs L→fs.lookup f=none→gk f v vs=vs++[(f,v)]
  | [],_,_,h,_=>by unfold aU at h;rw [h.1];rfl
  | (g,d)::fs,_,_,h,e=>by
    unfold aU at h
    obtain ⟨u,r,A,B,rfl,h1,h2,k,rfl⟩:=h
    rw [List.lookup_cons] at e
    cases hx:f==g with
    | true=>rw [hx] at e;cases e
    | false=>
      rw [hx] at e
      unfold gk
      have:¬g=f:=fun z=>by subst z;simp at hx
      rw [if_neg this,aU.put_none h2 e];rfl
def ki (C:Addr) (f:Str) (g:FN):FS:=fun δ=>match δ with
 | some (.on a (.obj C' fs))::r=>if C'=C∧fs.length<1000∧fs.lookup f=none then (g δ).bind fun d=>some (.nx (some (.on a (.obj C (fs++[(f,d)])))::r)) else none
 | _=>none
section
variable {X:Cx} {e:Expr} {g:FN}
theorem iJ {f x:Str} {xp pos pos':Pos} {C:Addr} (hx:PE X (.Name x xp) (tVar 0)) (he:DN X e g) (hk:Cls X.K C∧NoAttr X.K C f)
  (hs:swapsWith e (some (.Attribute (.Name x xp) f pos')) pos.line X.env=pure false:=by rfl) :
  DS X (.Assign [.Attribute (.Name x xp) f pos'] e pos) (ki C f g):=.mk fun H0 Hs0=>
 (ps_fld hx he.go hs).weak fun D σ H ⟨Hs,δ,res,W,S,e,P⟩=>by
  match δ,e,S with
  | some (.on a (.obj C' fs))::r,e,S=>
   replace e:(if C'=C∧fs.length<1000∧fs.lookup f=none then (g (some (.on a (.obj C' fs))::r)).bind fun d=>some (Res.nx (some (.on a (.obj C (fs++[(f,d)])))::r)) else none)=some res:=e
   by_cases hc:C'=C∧fs.length<1000∧fs.lookup f=none
   ·
    rw [if_pos hc] at e
    obtain ⟨rfl,hl,hf⟩:=hc
    cases eg:g (some (.on a (.obj C' fs))::r) with
    | none=>rw [eg] at e;cases e
    | some d=>
     rw [eg] at e
     cases e
     refine ⟨Hs,_,d,W.sub,S.ent,eg,fun y Hs1 H1 L1 W1 O1 n1=>?_⟩
     obtain ⟨v,hv,ev,L,O,nL⟩:=S.ent 0 _ rfl
     have O':=O
     unfold Own at O
     obtain ⟨a',dx,fvs,M,e1,h1,h3,h2,nM,nM2,rfl⟩:=O
     rw [ev] at e1;cases e1
     subst ev
     refine ⟨_,hv,a,C',dx,fvs,rfl,W1.keep _ _ h1,hk.1,hk.2,by rw [h2.length];exact hl,?_⟩
     have na:∀ b∈L1,b∉a::dx::M:=fun b hb z=>by
      obtain ⟨o,ho⟩:=Own.cell _ O' b z
      rw [(n1 b hb).1] at ho;cases ho
     have nd:dx≠a:=fun z=>by rw [z,h1] at h3;cases h3
     have aM:Hs1 a=none:=W1.stay h1 (nL a List.mem_cons_self)
     have ON:Own (L2.upd H1 a (.ins C' dx (fvs++[(f,y)]))) (.obj C' (fs++[(f,d)])) (.ref a) (a::dx::(M++L1)):=by
      unfold Own
      refine ⟨a,dx,fvs++[(f,y)],M++L1,rfl,ax,?_,?_,fun z=>?_,fun z=>?_,rfl⟩
      ·
       rw [aA nd];exact W1.keep _ _ h3
      ·
       refine (aU.snoc (h2.mono W1.keep) O1 fun b hb hb1=>na b hb1 (List.mem_cons_of_mem _ (List.mem_cons_of_mem _ hb))).agree _ fun b hb=>aA fun z=>?_
       subst z
       rcases List.mem_append.mp hb with hb | hb
       ·
        exact nM hb
       ·
        exact na _ hb List.mem_cons_self
      ·
       rcases List.mem_append.mp z with z | z
       ·
        exact nM z
       ·
        exact na _ z List.mem_cons_self
      ·
       rcases List.mem_append.mp z with z | z
       ·
        exact nM2 z
       ·
        exact na _ z (List.mem_cons_of_mem _ List.mem_cons_self)
     rw [h2.put_none hf]
     have:=S.upG (i:=0) (Hs':=Hs1) (H':=L2.upd H1 a (.ins C' dx (fvs++[(f,y)]))) (e':=.on a (.obj C' (fs++[(f,d)]))) (v':=.ref a) W rfl hv (fun b o n eb=>by
       have:b≠a:=fun z=>n ⟨_,O',by rw [z];exact List.mem_cons_self⟩
       rw [aA this];exact W1.keep _ _ eb) (fun b o eb=>by rw [aA (aN eb aM)];exact W1.sub _ _ eb) W1.base W1.new
       ⟨rfl,_,ON,fun b hb=>by
        rcases List.mem_cons.mp hb with rfl | hb
        ·
         exact aM
        ·
         rcases List.mem_cons.mp hb with rfl | hb
         ·
          exact W1.stay h3 (nL _ (List.mem_cons_of_mem _ List.mem_cons_self))
         ·
          rcases List.mem_append.mp hb with hb | hb
          ·
           obtain ⟨o,ho⟩:=aU.cell _ h2 b hb
           exact W1.stay ho (nL _ (List.mem_cons_of_mem _ (List.mem_cons_of_mem _ hb)))
          ·
           exact (n1 b hb).2⟩
       (fun b ⟨L',f',hb⟩=>by
        rw [Own.uniq _ f' ON] at hb
        rcases List.mem_cons.mp hb with rfl | hb
        ·
         exact .inl ⟨_,O',List.mem_cons_self⟩
        ·
         rcases List.mem_cons.mp hb with rfl | hb
         ·
          exact .inl ⟨_,O',List.mem_cons_of_mem _ List.mem_cons_self⟩
         ·
          rcases List.mem_append.mp hb with hb | hb
          ·
           exact .inl ⟨_,O',List.mem_cons_of_mem _ (List.mem_cons_of_mem _ hb)⟩
          ·
           exact .inr (n1 b hb).1)
     rw [set_same hv] at this
     exact P σ Hs1 _ this.1 this.2
   ·
    rw [if_neg hc] at e;cases e
end
def spIN (C:Addr) (n:Nat) (m:List D→Option (List (Str×D))):Sp:=fun vs H Q _=>∃ H1 Hs p dx us ds fs,ds.length=n∧vs=.ref p::us∧H=L2.upd (L2.upd H1 dx (.own p)) p (.ins C dx [])∧H1 p=none∧H1 dx=none∧dx≠p∧aH Hs H1∧ay Hs ds us∧m ds=some fs∧
 ∀ Hs' H' L,Wd H1 Hs Hs' H'→Own H' (.obj C fs) (.ref p) L→(∀ a∈L,H1 a=none∧Hs' a=none)→Q .non H'
def iK (k:Nat) (C:Addr) (F:FS) (ds:List D) (p:Addr):Option (List (Str×D)):=match F (some (.on p (.obj C []))::(ds.map (fun d=>some (.sh d))++List.replicate (k-(ds.length+1)) none)) with
 | some (.nx (some (.on a (.obj C' fs))::_))=>if a=p∧C'=C then some fs else none
 | _=>none
section
variable {P:Program} {w:World} {K:PySem.W.Frag} {mg:Str→Option Value} {base:Heap}
theorem fn_IN {x qual:Str} {st:Stmt} {f C:Addr} {fd:FuncData} {N ps:List Str} {k n:Nat} {F:FS} {m:List D→Option (List (Str×D))} (hn:ps.length=n+1) (F0:Fun K x qual st f fd) (S:dM N ps (ap st))
  (hm:∀ ds fs,m ds=some fs→∀ p,iK N.length C F ds p=some fs)
  (h:∀ (cdv:Value) (A:Around) (outer:List Env) (s:Shared) (H:Hp) (E:XK),bq k (A.deeper (PyProof.Rows.envOfC qual (ap st) s.heap.objs.size f cdv))→DSs (jJ CX0 P w K mg base N qual (ap st) f cdv A outer s H E).nox (aQ st) F) :
  dL P w K mg base CX0 (k+1) f fd ps (spIN C n m):=by
 refine F0.ok S (fun vs H Q E' hs=>?_) (fun cdv A outer s H vs Q E' hr hs=>?_)
 ·
  obtain ⟨H1,Hs,p,dx,us,ds,fs,e1,rfl,_,_,_,_,_,r,_⟩:=hs
  rw [List.length_cons,r.length,e1,hn]
 ·
  obtain ⟨H1,Hs,p,dx,us,ds,fs,e1,rfl,rfl,np,nd,ne,sub,r,em,post⟩:=hs
  refine ⟨_,(h cdv A outer s _ E' hr).go H1 Hs,?_⟩
  have em:=hm ds fs em p
  unfold iK at em
  have np':(L2.upd H1 dx (.own p)) p=none:=by rw [aA (Ne.symm ne)];exact np
  have W0:Wd H1 Hs Hs (L2.upd (L2.upd H1 dx (.own p)) p (.ins C dx [])):=(Wd.fresh sub nd).trans (.fresh (sub.trans (.new nd)) np')
  have hsp:Hs p=none:=sub.free np
  have hsd:Hs dx=none:=sub.free nd
  have O0:Own (L2.upd (L2.upd H1 dx (.own p)) p (.ins C dx [])) (.obj C []) (.ref p) [p,dx]:=by
   unfold Own
   refine ⟨p,dx,[],[],rfl,ax,?_,by unfold aU;exact ⟨rfl,rfl⟩,fun z=>(by cases z),fun z=>(by cases z),rfl⟩
   rw [aA ne,ax]
  have in2:∀ b∈[p,dx],H1 b=none∧Hs b=none:=fun b hb=>by
   rcases List.mem_cons.mp hb with rfl | hb
   ·
    exact ⟨np,hsp⟩
   ·
    rcases List.mem_cons.mp hb with rfl | hb
    ·
     exact ⟨nd,hsd⟩
    ·
     cases hb
  have St0:StR H1 Hs (L2.upd (L2.upd H1 dx (.own p)) p (.ins C dx [])) (some (.on p (.obj C []))::(ds.map (fun d=>some (E.sh d))++List.replicate (N.length-(ds.length+1)) none)) (L2.start N (.ref p::us)):=by
   have hN:n+1≤N.length:=by
    have:=congrArg List.length S.pre
    rw [List.length_take,hn] at this
    omega
   have get:∀ (i:Nat) (en:E),(ds.map (fun d=>some (E.sh d))++List.replicate (N.length-(ds.length+1)) none)[i]?=some (some en)→∃ d,ds[i]?=some d∧en=E.sh d:=fun i en h=>by
    by_cases hi:i<ds.length
    ·
     rw [List.getElem?_append_left (by simpa using hi),List.getElem?_map] at h
     cases q:ds[i]? with
     | none=>rw [q] at h;cases h
     | some d=>rw [q] at h;cases h;exact ⟨d,rfl,rfl⟩
    ·
     rw [List.getElem?_append_right (by simpa using hi),List.getElem?_replicate] at h
     split at h <;> cases h
   refine ⟨fun i en h=>?_,?_,fun i e v b h hv f=>?_,fun i j e e' v v' b hij h h' _ _ f f'=>?_⟩
   ·
    cases i with
    | zero=>
     cases h
     exact ⟨.ref p,rfl,rfl,[p,dx],O0,fun b hb=>(in2 b hb).2⟩
    | succ i=>
     obtain ⟨d,hd,rfl⟩:=get i en (by simpa using h)
     obtain ⟨v,hv,rv⟩:=r.get hd
     refine ⟨v,?_,rv⟩
     unfold L2.start
     have hi:i<us.length:=(List.getElem?_eq_some_iff.mp hv).1
     rw [List.map_cons,List.cons_append,List.getElem?_cons_succ,List.getElem?_append_left (by simpa using hi),List.getElem?_map,hv]
     rfl
   ·
    unfold L2.start
    simp [r.length]
   ·
    cases i with
    | zero=>
     cases h
     have hv':(some (some (V.ref p)):Option (Option V))=some (some v):=hv
     cases hv'
     obtain ⟨L,O,hb⟩:=f
     rw [Own.uniq _ O O0] at hb
     exact (in2 b hb).1
    | succ i=>obtain ⟨d,_,z⟩:=get i _ (by simpa using h);rw [z] at f;cases f
   ·
    cases i with
    | zero=>
     cases j with
     | zero=>exact hij rfl
     | succ j=>obtain ⟨d,_,z⟩:=get j _ (by simpa using h');rw [z] at f';cases f'
    | succ i=>obtain ⟨d,_,z⟩:=get i _ (by simpa using h);rw [z] at f;cases f
  cases eF:F (some (.on p (.obj C []))::(ds.map (fun d=>some (E.sh d))++List.replicate (N.length-(ds.length+1)) none)) with
  | none=>rw [eF] at em;cases em
  | some res=>
   rw [eF] at em
   refine ⟨Hs,_,res,W0,St0,eF,?_⟩
   match res,em with
   | .nx (some (.on a (.obj C' fs'))::rest),em=>
    by_cases hc:a=p∧C'=C
    ·
     simp only [if_pos hc] at em
     cases em
     obtain ⟨rfl,rfl⟩:=hc
     intro σ Hs1 H1' W1 S1
     obtain ⟨v,hv,ev,L,O,nL⟩:=S1.ent 0 _ rfl
     subst ev
     exact post Hs1 H1' L W1 O fun b hb=>⟨S1.new 0 _ _ b rfl hv ⟨L,O,hb⟩,nL b hb⟩
    ·
     simp only [if_neg hc] at em;cases em
end
def dl (C:Addr) (n:Nat) (m:List D→Option (List (Str×D))) (fa:DSt→Option (List R)):FN:=fun δ=>(fa δ).bind fun rs=>if rs.length=n∧cT rs=true then (m (rs.map R.view)).map (.obj C) else none
theorem tN_make {C:Addr} {n:Nat} {m:List D→Option (List (Str×D))} {fr:DSt→Option (List R)} {E:XK} {σ:St} {H:Hp} {Q:VK} (h:tN (dl C n m fr) σ H Q):tMake C (spIN C n m) [] E (tDA fr) σ H Q:=by
 obtain ⟨Hs,δ,r,S,En,e,K⟩:=h
 unfold dl at e
 cases ea:fr δ with
 | none=>rw [ea] at e;cases e
 | some rs=>
  rw [ea] at e
  replace e:(if rs.length=n∧cT rs=true then (m (rs.map R.view)).map (.obj C) else none)=some r:=e
  refine ⟨Hs,δ,rs,S,En,ea,fun vs Hs1 H1 W1 R1 x dx nx nd ne=>?_⟩
  by_cases hc:rs.length=n∧cT rs=true
  ·
   rw [if_pos hc] at e
   cases em:m (rs.map R.view) with
   | none=>rw [em] at e;cases e
   | some fs=>
    rw [em] at e
    cases e
    obtain ⟨Hs2,q1,q2,q3,q4⟩:=R1.freeze W1.sub
    have W2:Wd H Hs Hs2 H1:=⟨W1.keep,q2,W1.base.trans q3,fun a o e=>by
     rcases q4 (im hc.2) a o e with z | z
     ·
      exact W1.new a o z
     ·
      exact .inr z⟩
    rw [List.append_nil]
    refine ⟨H1,Hs2,x,dx,vs,_,fs,by rw [List.length_map];exact hc.1,rfl,rfl,nx,nd,ne,q2,q1,em,fun Hs3 H3 L W3 O n3=>⟨rfl,?_⟩⟩
    exact K (.ref x) Hs3 H3 L (W2.trans W3) O fun a ha=>⟨W1.keep.free (n3 a ha).1,(n3 a ha).2⟩
  ·
   rw [if_neg hc] at e;cases e
def fx (i:Nat) (t:DSt→Option Bool) (F G:FS):FS:=fun δ=>(t (frz i δ)).bind fun b=>if b=true then F δ else G δ
def iL (i k:Nat) (f:FE):FS:=fun δ=>(f (frz i δ)).bind fun r=>match r with
 | .sh d=>if d.flat=true then some (.nx (δ.set k (some (.sh d)))) else none
 | _=>none
theorem Wd.lend {H Hs Hs1 Hs2 H2:Hp} (s:aH Hs H) (w:Wd H Hs1 Hs2 H2):Wd H Hs Hs H2:=⟨w.keep,s.trans w.keep,.refl _,fun _ _ e=>.inl e⟩
section
variable {X:Cx} {c e:Expr} {a b:List Stmt} {t:DSt→Option Bool} {F G:FS} {f:FE} {pos:Pos}
theorem ds_ifB {i:Nat} (hc:DT X c t) (ha:DSs X a F) (hb:DSs X b G):DS X (.If c a b pos) (fx i t F G):=.mk fun H0 Hs0=>(ps_if hc.go (ha.go H0 Hs0) (hb.go H0 Hs0)).weak fun D σ H ⟨Hs,δ,res,W,S,e,P⟩=>by
 unfold fx at e
 cases et:t (frz i δ) with
 | none=>rw [et] at e;cases e
 | some k=>
  rw [et] at e
  obtain ⟨Hs1,W1,S1⟩:=S.frz (i:=i) W
  refine ⟨Hs1,_,k,W1.sub,S1.ent,et,fun Hs2 H2 W2=>?_⟩
  have W3:=W2.lend W.sub
  cases k with
  | true=>show (if true=true then tS H0 Hs0 F D σ H2 else tS H0 Hs0 G D σ H2);rw [if_pos rfl];exact ⟨Hs,δ,res,W.trans W3,S.mono W3,e,P⟩
  | false=>show (if false=true then tS H0 Hs0 F D σ H2 else tS H0 Hs0 G D σ H2);rw [if_neg Bool.false_ne_true];exact ⟨Hs,δ,res,W.trans W3,S.mono W3,e,P⟩
theorem ds_setB {i k:Nat} {x:Str} {pos':Pos} (hN:X.N.Nodup) (hi:X.N[k]?=some x) (hx:Loc X.env.scope x) (he:DE X e f) (hs:swapsWith e (some (.Name x pos')) pos.line X.env=pure false:=by rfl)
  (hf:X.fn x=true∨X.env.scope.names.lookup x=some .local:=by first | exact .inl rfl | exact .inr rfl | assumption):DS X (.Assign [.Name x pos'] e pos) (iL i k f):=.mk fun H0 Hs0=>(ps_set hN hi hx he.go hs hf).weak fun D σ H ⟨Hs,δ,res,W,S,e,P⟩=>by
 unfold iL at e
 cases et:f (frz i δ) with
 | none=>rw [et] at e;cases e
 | some r=>
  rw [et] at e
  obtain ⟨Hs1,W1,S1⟩:=S.frz (i:=i) W
  refine ⟨Hs1,_,r,W1.sub,S1.ent,et,fun v Hs2 H2 W2 R2=>?_⟩
  match r,e,R2 with
  | .sh d,e,R2=>
   replace e:(if d.flat=true then some (Res.nx (δ.set k (some (.sh d)))) else none)=some res:=e
   by_cases hf:d.flat=true
   ·
    rw [if_pos hf] at e
    cases e
    have W3:=W2.lend W.sub
    exact P _ Hs H2 (W.trans W3) (S.put W.keep W3 (Rep.flat hf R2) fun b z=>by cases z)
   ·
    rw [if_neg hf] at e;cases e
end
end Ew
end
section
set_option Elab.async false
set_option linter.all false
set_option maxRecDepth 100000
namespace Ew
open PySem PySem.Spec L2
def oIs:D→D→Option R
 | .bl b,.bl c=>some (.sh (.bl (decide (b=c))))
 | .non,.bl _=>some (.sh (.bl false))
 | .int _,.bl _=>some (.sh (.bl false))
 | .str _,.bl _=>some (.sh (.bl false))
 | .lst _,.bl _=>some (.sh (.bl false))
 | .tup _,.bl _=>some (.sh (.bl false))
 | .obj _ _,.bl _=>some (.sh (.bl false))
 | .non,.non=>some (.sh (.bl true))
 | .bl _,.non=>some (.sh (.bl false))
 | .int _,.non=>some (.sh (.bl false))
 | .str _,.non=>some (.sh (.bl false))
 | .lst _,.non=>some (.sh (.bl false))
 | .tup _,.non=>some (.sh (.bl false))
 | .obj _ _,.non=>some (.sh (.bl false))
 | _,_=>none
def hZ (a b:D):Option R:=(oIs a b).bind fun r=>match r with
 | .sh (.bl x)=>some (.sh (.bl (!x)))
 | _=>none
section
variable {X:Cx}
theorem is_vals {H Hs:Hp} {a b:D} {x y:V} {v u:Value} {r:R} (S:aH Hs H) (va:View Hs H a x) (vb:View Hs H b y) (rx:RelV x v) (ry:RelV y u) (e:oIs a b=some r):plainIs v u=true∧r=.sh (.bl (v==u)):=by
 have key:∀ (x:V),RelV x v→(∀ q,x≠.bl q)→(∀ n,x≠.ty n)→(x=.non→v=.none)∧∀ c,plainIs v (.bool c)=true∧(v==Value.bool c)=false∧plainIs v .none=true∧(x≠.non→(v==Value.none)=false):=fun x rx nq nt=>by
  cases x with
  | non=>cases rx;exact ⟨fun _=>rfl,fun c=>⟨rfl,rfl,rfl,fun z=>absurd rfl z⟩⟩
  | bl q=>exact absurd rfl (nq q)
  | int i=>obtain ⟨t,rfl⟩:=rx;exact ⟨fun z=>(by cases z),fun c=>⟨rfl,rfl,rfl,fun _=>rfl⟩⟩
  | str i=>obtain ⟨t,rfl⟩:=rx;exact ⟨fun z=>(by cases z),fun c=>⟨rfl,rfl,rfl,fun _=>rfl⟩⟩
  | byt i=>obtain ⟨t,rfl⟩:=rx;exact ⟨fun z=>(by cases z),fun c=>⟨rfl,rfl,rfl,fun _=>rfl⟩⟩
  | flt i=>obtain ⟨t,rfl⟩:=rx;exact ⟨fun z=>(by cases z),fun c=>⟨rfl,rfl,rfl,fun _=>rfl⟩⟩
  | ref i=>cases rx;exact ⟨fun z=>(by cases z),fun c=>⟨rfl,rfl,rfl,fun _=>rfl⟩⟩
  | ty n=>exact absurd rfl (nt n)
 have fin:∀ {x:V},RelV x v→(∀ q,x≠.bl q)→(∀ n,x≠.ty n)→x≠.non→((∃ c,y=.bl c)∨y=.non)→r=.sh (.bl false)→plainIs v u=true∧r=.sh (.bl (v==u)):=fun {x} rx nq nt nn hy er=>by
  have:=(key x rx nq nt).2
  rcases hy with ⟨c,rfl⟩ | rfl
  ·
   cases ry;rw [er,(this c).2.1];exact ⟨(this c).1,rfl⟩
  ·
   cases ry;rw [er,(this true).2.2.2 nn];exact ⟨(this true).2.2.1,rfl⟩
 match a,b,e,va,vb with
 | .bl p,.bl c,e,va,vb=>
  cases e
  have h1:=va.bl;have h2:=vb.bl
  subst h1;subst h2
  cases rx;cases ry
  refine ⟨rfl,?_⟩
  cases p <;> cases c <;> rfl
 | .non,.non,e,va,vb=>
  cases e
  have h1:=va.non;have h2:=vb.non
  subst h1;subst h2
  cases rx;cases ry
  exact ⟨rfl,rfl⟩
 | .non,.bl c,e,va,vb=>
  cases e
  have h1:=va.non;have h2:=vb.bl
  subst h1;subst h2
  cases rx;cases ry
  exact ⟨rfl,rfl⟩
 | .bl p,.non,e,va,vb=>
  cases e
  have h1:=va.bl;have h2:=vb.non
  subst h1;subst h2
  cases rx;cases ry
  exact ⟨rfl,rfl⟩
 | .int _,.bl _,e,va,vb=>cases e;have h1:=va.int;subst h1;exact fin rx (fun _ z=>by cases z) (fun _ z=>by cases z) (fun z=>by cases z) (.inl ⟨_,vb.bl⟩) rfl
 | .str _,.bl _,e,va,vb=>cases e;have h1:=va.str;subst h1;exact fin rx (fun _ z=>by cases z) (fun _ z=>by cases z) (fun z=>by cases z) (.inl ⟨_,vb.bl⟩) rfl
 | .lst _,.bl _,e,va,vb=>cases e;obtain ⟨a,vs,h1,_⟩:=va.lst S;subst h1;exact fin rx (fun _ z=>by cases z) (fun _ z=>by cases z) (fun z=>by cases z) (.inl ⟨_,vb.bl⟩) rfl
 | .tup _,.bl _,e,va,vb=>cases e;obtain ⟨a,vs,h1,_⟩:=va.tup S;subst h1;exact fin rx (fun _ z=>by cases z) (fun _ z=>by cases z) (fun z=>by cases z) (.inl ⟨_,vb.bl⟩) rfl
 | .obj _ _,.bl _,e,va,vb=>cases e;obtain ⟨a,dx,vs,h1,_⟩:=va.obj S;subst h1;exact fin rx (fun _ z=>by cases z) (fun _ z=>by cases z) (fun z=>by cases z) (.inl ⟨_,vb.bl⟩) rfl
 | .int _,.non,e,va,vb=>cases e;have h1:=va.int;subst h1;exact fin rx (fun _ z=>by cases z) (fun _ z=>by cases z) (fun z=>by cases z) (.inr vb.non) rfl
 | .str _,.non,e,va,vb=>cases e;have h1:=va.str;subst h1;exact fin rx (fun _ z=>by cases z) (fun _ z=>by cases z) (fun z=>by cases z) (.inr vb.non) rfl
 | .lst _,.non,e,va,vb=>cases e;obtain ⟨a,vs,h1,_⟩:=va.lst S;subst h1;exact fin rx (fun _ z=>by cases z) (fun _ z=>by cases z) (fun z=>by cases z) (.inr vb.non) rfl
 | .tup _,.non,e,va,vb=>cases e;obtain ⟨a,vs,h1,_⟩:=va.tup S;subst h1;exact fin rx (fun _ z=>by cases z) (fun _ z=>by cases z) (fun z=>by cases z) (.inr vb.non) rfl
 | .obj _ _,.non,e,va,vb=>cases e;obtain ⟨a,dx,vs,h1,_⟩:=va.obj S;subst h1;exact fin rx (fun _ z=>by cases z) (fun _ z=>by cases z) (fun z=>by cases z) (.inr vb.non) rfl
theorem op_oIs:OpR X (compareOp .Is) (rD oIs):=by
 intro pins s σ H x y v u Q I rx ry h
 obtain ⟨Hs,a,b,r,S,va,vb,e,K⟩:=h
 obtain ⟨hp,rfl⟩:=is_vals S va vb rx ry e
 exact wpAny_is_plain hp (fin_bl I (K (.bl (v==u)) Hs H (.refl S) (shB _ _ _ _)) rfl)
theorem lb:OpR X (compareOp .IsNot) (rD hZ):=by
 intro pins s σ H x y v u Q I rx ry h
 obtain ⟨Hs,a,b,r,S,va,vb,e,K⟩:=h
 unfold hZ at e
 cases eo:oIs a b with
 | none=>rw [eo] at e;cases e
 | some r0=>
  rw [eo] at e
  obtain ⟨hp,rfl⟩:=is_vals S va vb rx ry eo
  cases e
  exact wpAny_isNot_plain hp (fin_bl I (K (.bl (!(v==u))) Hs H (.refl S) (shB _ _ _ _)) rfl)
end
end Ew
end
section
set_option Elab.async false
set_option linter.all false
set_option maxRecDepth 100000
namespace Ew
open PySem PySem.Spec L2
inductive Stp where
 | f (C:Addr) (g:Str)
 | x (n:Nat)
def setF (g:Str) (h:D→D):List (Str×D)→List (Str×D)
  | []=>[]
  | (k,e)::r=>if k=g then (k,h e)::r else (k,e)::setF g h r
def setX (n:Nat) (h:D→D) (ds:List D):List D:=match ds[n]? with
 | some e=>ds.set n (h e)
 | none=>ds
def sub:D→List Stp→Option D
 | d,[]=>some d
 | .obj C fs,.f C' g::π=>if C=C' then (fs.lookup g).bind (sub · π) else none
 | .lst ds,.x n::π=>ds[n]?.bind (sub · π)
 | .tup ds,.x n::π=>ds[n]?.bind (sub · π)
 | _,_::_=>none
def putAt:D→List Stp→D→D
 | _,[],d'=>d'
 | .obj C fs,.f _ g::π,d'=>.obj C (setF g (putAt · π d') fs)
 | .lst ds,.x n::π,d'=>.lst (setX n (putAt · π d') ds)
 | .tup ds,.x n::π,d'=>.tup (setX n (putAt · π d') ds)
 | d,_::_,_=>d
def At (H:Hp):D→V→List Stp→D→V→Prop
 | d,v,[],d',v'=>d'=d∧v'=v
 | .obj C fs,v,.f C' g::π,d',v'=>C=C'∧∃ a dx fvs w e,v=.ref a∧H a=some (.ins C dx fvs)∧fs.lookup g=some e∧fvs.lookup g=some w∧At H e w π d' v'
 | .lst ds,v,.x n::π,d',v'=>∃ a vs w e,v=.ref a∧H a=some (.lst vs)∧ds[n]?=some e∧vs[n]?=some w∧At H e w π d' v'
 | .tup ds,v,.x n::π,d',v'=>∃ a vs w e,v=.ref a∧H a=some (.tup vs)∧ds[n]?=some e∧vs[n]?=some w∧At H e w π d' v'
 | _,_,_::_,_,_=>False
theorem aF.part {H:Hp}:∀ {ds:List D} {vs:List V} {L:List Addr} {n:Nat} {e:D} {w:V},aF H ds vs L→ds[n]?=some e→vs[n]?=some w→
  ∃ M,Own H e w M∧(∀ b∈M,b∈L)∧∀ H' e' M',(∀ b,b∉M→H' b=H b)→Own H' e' w M'→(∀ b∈M',b∈M)→∃ L',aF H' (ds.set n e') vs L'∧∀ b∈L',b∈L
 | [],_,_,n,e,w,h,he,hw=>by simp at he
 | d::ds,_,_,0,e,w,h,he,hw=>by
  unfold aF at h
  obtain ⟨v,r,A,B,rfl,h1,h2,k,rfl⟩:=h
  simp at he hw
  subst he;subst hw
  refine ⟨A,h1,fun b hb=>List.mem_append_left _ hb,fun H' e' M' ag o s=>⟨M'++B,?_,fun b hb=>?_⟩⟩
  ·
   rw [List.set_cons_zero]
   unfold aF
   exact ⟨v,r,M',B,rfl,o,h2.agree _ fun b hb=>ag b fun z=>k b z hb,fun b hb hb'=>k b (s b hb) hb',rfl⟩
  ·
   rcases List.mem_append.mp hb with hb | hb
   ·
    exact List.mem_append_left _ (s b hb)
   ·
    exact List.mem_append_right _ hb
 | d::ds,_,_,n+1,e,w,h,he,hw=>by
  unfold aF at h
  obtain ⟨v,r,A,B,rfl,h1,h2,k,rfl⟩:=h
  simp at he hw
  obtain ⟨M,o,s,p⟩:=aF.part h2 he hw
  refine ⟨M,o,fun b hb=>List.mem_append_right _ (s b hb),fun H' e' M' ag o' s'=>?_⟩
  obtain ⟨L',q1,q2⟩:=p H' e' M' ag o' s'
  refine ⟨A++L',?_,fun b hb=>?_⟩
  ·
   rw [List.set_cons_succ]
   unfold aF
   exact ⟨v,r,A,L',rfl,h1.agree _ fun b hb=>ag b fun z=>k b hb (s b z),q1,fun b hb hb'=>k b hb (q2 b hb'),rfl⟩
  ·
   rcases List.mem_append.mp hb with hb | hb
   ·
    exact List.mem_append_left _ hb
   ·
    exact List.mem_append_right _ (q2 b hb)
theorem aU.part {H:Hp} {g:Str}:∀ {fs:List (Str×D)} {vs:List (Str×V)} {L:List Addr} {e:D} {w:V},aU H fs vs L→fs.lookup g=some e→vs.lookup g=some w→
    ∃ M,Own H e w M∧(∀ b∈M,b∈L)∧∀ H' (h:D→D) M',(∀ b,b∉M→H' b=H b)→Own H' (h e) w M'→(∀ b∈M',b∈M)→∃ L',aU H' (setF g h fs) vs L'∧∀ b∈L',b∈L
  | [],_,_,e,w,h,he,hw=>by simp at he
  | (c,d)::fs,_,_,e,w,h,he,hw=>by
    unfold aU at h
    obtain ⟨v,r,A,B,rfl,h1,h2,k,rfl⟩:=h
    rw [List.lookup_cons] at he hw
    cases hx:g==c with
    | true=>
      rw [hx] at he hw
      cases he;cases hw
      have hc:c=g:=by simpa using (eq_comm.mp (by simpa using hx))
      refine ⟨A,h1,fun b hb=>List.mem_append_left _ hb,fun H' h M' ag o s=>⟨M'++B,?_,fun b hb=>?_⟩⟩
      · unfold setF
        rw [if_pos hc]
        unfold aU
        exact ⟨_,r,M',B,rfl,o,h2.agree _ fun b hb=>ag b fun z=>k b z hb,fun b hb hb'=>k b (s b hb) hb',rfl⟩
      · rcases List.mem_append.mp hb with hb | hb
        · exact List.mem_append_left _ (s b hb)
        · exact List.mem_append_right _ hb
    | false=>
      rw [hx] at he hw
      have hc:¬c=g:=fun z=>by subst z;simp at hx
      obtain ⟨M,o,s,p⟩:=aU.part h2 he hw
      refine ⟨M,o,fun b hb=>List.mem_append_right _ (s b hb),fun H' h M' ag o' s'=>?_⟩
      obtain ⟨L',q1,q2⟩:=p H' h M' ag o' s'
      refine ⟨A++L',?_,fun b hb=>?_⟩
      · unfold setF
        rw [if_neg hc]
        unfold aU
        exact ⟨v,r,A,L',rfl,h1.agree _ fun b hb=>ag b fun z=>k b hb (s b z),q1,fun b hb hb'=>k b hb (q2 b hb'),rfl⟩
      · rcases List.mem_append.mp hb with hb | hb
        · exact List.mem_append_left _ hb
        · exact List.mem_append_right _ (q2 b hb)
theorem Own.part {H:Hp} {π:List Stp}:∀ {d:D} {v:V} {L:List Addr} {d':D} {v':V},Own H d v L→At H d v π d' v'→
  ∃ M,Own H d' v' M∧(∀ b∈M,b∈L)∧∀ H' e' M',(∀ b,b∉M→H' b=H b)→Own H' e' v' M'→(∀ b∈M',b∈M)→∃ L',Own H' (putAt d π e') v L'∧∀ b∈L',b∈L:=by
 induction π with
 | nil=>
  intro d v L d' v' h a
  unfold At at a
  obtain ⟨rfl,rfl⟩:=a
  exact ⟨L,h,fun b hb=>hb,fun H' e' M' ag o s=>⟨M',by unfold putAt;exact o,s⟩⟩
 | cons stp π ih=>
  intro d v L d' v' h a
  cases stp with
  | f C g=>
   cases d with
   | obj C' fs=>
    unfold At at a
    obtain ⟨rfl,p,dx,fvs,w,e,rfl,h1,he,hw,a⟩:=a
    unfold Own at h
    obtain ⟨p',dx',fvs',M0,e1,h1',h3,h2,n1,n2,rfl⟩:=h
    cases e1
    rw [h1] at h1';cases h1'
    obtain ⟨Me,oe,se,pe⟩:=aU.part h2 he hw
    obtain ⟨M,o,s,q⟩:=ih oe a
    refine ⟨M,o,fun b hb=>List.mem_cons_of_mem _ (List.mem_cons_of_mem _ (se b (s b hb))),fun H' e' M' ag o' s'=>?_⟩
    obtain ⟨Le,ol,sl⟩:=q H' e' M' ag o' s'
    obtain ⟨L',ol',sl'⟩:=pe H' (putAt · π e') Le (fun b hb=>ag b fun z=>hb (s b z)) ol sl
    refine ⟨p::dx::L',?_,fun b hb=>?_⟩
    ·
     unfold putAt Own
     exact ⟨p,dx,fvs,L',rfl,by rw [ag p fun z=>n1 (se _ (s _ z))];exact h1,by rw [ag dx fun z=>n2 (se _ (s _ z))];exact h3,ol',fun z=>n1 (sl' _ z),fun z=>n2 (sl' _ z),rfl⟩
    ·
     rcases List.mem_cons.mp hb with rfl | hb
     ·
      exact List.mem_cons_self
     ·
      rcases List.mem_cons.mp hb with rfl | hb
      ·
       exact List.mem_cons_of_mem _ List.mem_cons_self
      ·
       exact List.mem_cons_of_mem _ (List.mem_cons_of_mem _ (sl' _ hb))
   | _=>unfold At at a;exact a.elim
  | x n=>
   cases d with
   | lst ds=>
    unfold At at a
    obtain ⟨p,vs,w,e,rfl,h1,he,hw,a⟩:=a
    unfold Own at h
    obtain ⟨p',vs',M0,e1,h1',h2,n1,rfl⟩:=h
    cases e1
    rw [h1] at h1';cases h1'
    obtain ⟨Me,oe,se,pe⟩:=aF.part h2 he hw
    obtain ⟨M,o,s,q⟩:=ih oe a
    refine ⟨M,o,fun b hb=>List.mem_cons_of_mem _ (se b (s b hb)),fun H' e' M' ag o' s'=>?_⟩
    obtain ⟨Le,ol,sl⟩:=q H' e' M' ag o' s'
    obtain ⟨L',ol',sl'⟩:=pe H' (putAt e π e') Le (fun b hb=>ag b fun z=>hb (s b z)) ol sl
    refine ⟨p::L',?_,fun b hb=>?_⟩
    ·
     unfold putAt Own setX
     rw [he]
     exact ⟨p,vs,L',rfl,by rw [ag p fun z=>n1 (se _ (s _ z))];exact h1,ol',fun z=>n1 (sl' _ z),rfl⟩
    ·
     rcases List.mem_cons.mp hb with rfl | hb
     ·
      exact List.mem_cons_self
     ·
      exact List.mem_cons_of_mem _ (sl' _ hb)
   | tup ds=>
    unfold At at a
    obtain ⟨p,vs,w,e,rfl,h1,he,hw,a⟩:=a
    unfold Own at h
    obtain ⟨p',vs',M0,e1,h1',h2,n1,rfl⟩:=h
    cases e1
    rw [h1] at h1';cases h1'
    obtain ⟨Me,oe,se,pe⟩:=aF.part h2 he hw
    obtain ⟨M,o,s,q⟩:=ih oe a
    refine ⟨M,o,fun b hb=>List.mem_cons_of_mem _ (se b (s b hb)),fun H' e' M' ag o' s'=>?_⟩
    obtain ⟨Le,ol,sl⟩:=q H' e' M' ag o' s'
    obtain ⟨L',ol',sl'⟩:=pe H' (putAt e π e') Le (fun b hb=>ag b fun z=>hb (s b z)) ol sl
    refine ⟨p::L',?_,fun b hb=>?_⟩
    ·
     unfold putAt Own setX
     rw [he]
     exact ⟨p,vs,L',rfl,by rw [ag p fun z=>n1 (se _ (s _ z))];exact h1,ol',fun z=>n1 (sl' _ z),rfl⟩
    ·
     rcases List.mem_cons.mp hb with rfl | hb
     ·
      exact List.mem_cons_self
     ·
      exact List.mem_cons_of_mem _ (sl' _ hb)
   | _=>unfold At at a;exact a.elim
theorem aF.get {H:Hp}:∀ {ds:List D} {vs:List V} {L:List Addr} {n:Nat} {e:D},aF H ds vs L→ds[n]?=some e→∃ w,vs[n]?=some w
 | [],_,_,_,_,_,he=>by simp at he
 | d::ds,_,_,0,e,h,he=>by unfold aF at h;obtain ⟨v,r,A,B,rfl,_⟩:=h;exact ⟨v,rfl⟩
 | d::ds,_,_,n+1,e,h,he=>by
  unfold aF at h
  obtain ⟨v,r,A,B,rfl,h1,h2,_⟩:=h
  obtain ⟨w,hw⟩:=aF.get (n:=n) h2 (by simpa using he)
  exact ⟨w,by simpa using hw⟩
theorem aU.get {H:Hp} {g:Str}:∀ {fs:List (Str×D)} {vs:List (Str×V)} {L:List Addr} {e:D},aU H fs vs L→fs.lookup g=some e→∃ w,vs.lookup g=some w
  | [],_,_,_,_,he=>by simp at he
  | (c,d)::fs,_,_,e,h,he=>by
    unfold aU at h
    obtain ⟨v,r,A,B,rfl,h1,h2,_⟩:=h
    rw [List.lookup_cons] at he ⊢
    cases hx:g==c with
    | true=>exact ⟨v,rfl⟩
    | false=>rw [hx] at he;exact aU.get h2 he
theorem At.one {H:Hp} {π:List Stp}:∀ {d:D} {v:V} {L:List Addr} {d' d'':D} {v':V} {st:Stp},Own H d v L→At H d v π d' v'→sub d' [st]=some d''→∃ v'',At H d' v' [st] d'' v''∧At H d v (π++[st]) d'' v'':=by
 induction π with
 | nil=>
  intro d v L d' d'' v' st h a e
  unfold At at a
  obtain ⟨rfl,rfl⟩:=a
  cases st with
  | f C' g=>
   cases d' with
   | obj C fs=>
    unfold sub at e
    by_cases hC:C=C'
    ·
     rw [if_pos hC] at e
     cases el:fs.lookup g with
     | none=>rw [el] at e;cases e
     | some k=>
      rw [el] at e
      have:k=d'':=by simpa [sub] using e
      subst this
      unfold Own at h
      obtain ⟨p,dx,fvs,M,e1,h1,h3,h2,_⟩:=h
      obtain ⟨w,hw⟩:=aU.get h2 el
      have:At H (.obj C fs) v' [.f C' g] k w:=by
       unfold At
       exact ⟨hC,p,dx,fvs,w,k,e1,h1,el,hw,by unfold At;exact ⟨rfl,rfl⟩⟩
      exact ⟨w,this,this⟩
    ·
     rw [if_neg hC] at e;cases e
   | _=>unfold sub at e;cases e
  | x n=>
   cases d' with
   | lst ds=>
    unfold sub at e
    cases el:ds[n]? with
    | none=>rw [el] at e;cases e
    | some k=>
     rw [el] at e
     have:k=d'':=by simpa [sub] using e
     subst this
     unfold Own at h
     obtain ⟨p,vs,M,e1,h1,h2,_⟩:=h
     obtain ⟨w,hw⟩:=aF.get h2 el
     have:At H (.lst ds) v' [.x n] k w:=by
      unfold At
      exact ⟨p,vs,w,k,e1,h1,el,hw,by unfold At;exact ⟨rfl,rfl⟩⟩
     exact ⟨w,this,this⟩
   | tup ds=>
    unfold sub at e
    cases el:ds[n]? with
    | none=>rw [el] at e;cases e
    | some k=>
     rw [el] at e
     have:k=d'':=by simpa [sub] using e
     subst this
     unfold Own at h
     obtain ⟨p,vs,M,e1,h1,h2,_⟩:=h
     obtain ⟨w,hw⟩:=aF.get h2 el
     have:At H (.tup ds) v' [.x n] k w:=by
      unfold At
      exact ⟨p,vs,w,k,e1,h1,el,hw,by unfold At;exact ⟨rfl,rfl⟩⟩
     exact ⟨w,this,this⟩
   | _=>unfold sub at e;cases e
 | cons stp π ih=>
  intro d v L d' d'' v' st h a e
  cases stp with
  | f C g=>
   cases d with
   | obj C' fs=>
    unfold At at a
    obtain ⟨rfl,p,dx,fvs,w,k,rfl,h1,he,hw,a⟩:=a
    unfold Own at h
    obtain ⟨p',dx',fvs',M0,e1,h1',h3,h2,n1,n2,rfl⟩:=h
    cases e1
    rw [h1] at h1';cases h1'
    obtain ⟨Me,oe,_⟩:=aU.part h2 he hw
    obtain ⟨v'',a1,a2⟩:=ih oe a e
    refine ⟨v'',a1,?_⟩
    rw [List.cons_append]
    unfold At
    exact ⟨rfl,p,dx,fvs,w,k,rfl,h1,he,hw,a2⟩
   | _=>unfold At at a;exact a.elim
  | x n=>
   cases d with
   | lst ds=>
    unfold At at a
    obtain ⟨p,vs,w,k,rfl,h1,he,hw,a⟩:=a
    unfold Own at h
    obtain ⟨p',vs',M0,e1,h1',h2,n1,rfl⟩:=h
    cases e1
    rw [h1] at h1';cases h1'
    obtain ⟨Me,oe,_⟩:=aF.part h2 he hw
    obtain ⟨v'',a1,a2⟩:=ih oe a e
    refine ⟨v'',a1,?_⟩
    rw [List.cons_append]
    unfold At
    exact ⟨p,vs,w,k,rfl,h1,he,hw,a2⟩
   | tup ds=>
    unfold At at a
    obtain ⟨p,vs,w,k,rfl,h1,he,hw,a⟩:=a
    unfold Own at h
    obtain ⟨p',vs',M0,e1,h1',h2,n1,rfl⟩:=h
    cases e1
    rw [h1] at h1';cases h1'
    obtain ⟨Me,oe,_⟩:=aF.part h2 he hw
    obtain ⟨v'',a1,a2⟩:=ih oe a e
    refine ⟨v'',a1,?_⟩
    rw [List.cons_append]
    unfold At
    exact ⟨p,vs,w,k,rfl,h1,he,hw,a2⟩
   | _=>unfold At at a;exact a.elim
theorem sub_f (C C':Addr) (fs:List (Str×D)) (g:Str) (π:List Stp):sub (.obj C fs) (.f C' g::π)=if C=C' then (fs.lookup g).bind (sub · π) else none:=by rw [sub]
theorem sub_l (ds:List D) (n:Nat) (π:List Stp):sub (.lst ds) (.x n::π)=ds[n]?.bind (sub · π):=by rw [sub]
theorem sub_t (ds:List D) (n:Nat) (π:List Stp):sub (.tup ds) (.x n::π)=ds[n]?.bind (sub · π):=by rw [sub]
theorem sub_nil (d:D):sub d []=some d:=by rw [sub]
theorem jZ:∀ (π:List Stp) (d:D) (st:Stp),sub d (π++[st])=(sub d π).bind (sub · [st])
 | [],d,st=>by rw [sub_nil];rfl
 | .f C g::π,.obj C' fs,st=>by
  rw [List.cons_append,sub_f,sub_f]
  by_cases h:C'=C
  ·
   rw [if_pos h,if_pos h]
   cases fs.lookup g with
   | none=>rfl
   | some e=>exact jZ π e st
  ·
   rw [if_neg h,if_neg h];rfl
 | .x n::π,.lst ds,st=>by
  rw [List.cons_append,sub_l,sub_l]
  cases ds[n]? with
  | none=>rfl
  | some e=>exact jZ π e st
 | .x n::π,.tup ds,st=>by
  rw [List.cons_append,sub_t,sub_t]
  cases ds[n]? with
  | none=>rfl
  | some e=>exact jZ π e st
 | .f C g::π,.non,st=>rfl
 | .f C g::π,.bl _,st=>rfl
 | .f C g::π,.int _,st=>rfl
 | .f C g::π,.str _,st=>rfl
 | .f C g::π,.lst _,st=>rfl
 | .f C g::π,.tup _,st=>rfl
 | .x n::π,.non,st=>rfl
 | .x n::π,.bl _,st=>rfl
 | .x n::π,.int _,st=>rfl
 | .x n::π,.str _,st=>rfl
 | .x n::π,.obj _ _,st=>rfl
def tP (i:Nat) (π:List Stp):TE:=fun σ H Q=>∃ v d d' L,σ[i]?=some (some v)∧Own H d v L∧sub d π=some d'∧∀ v',At H d v π d' v'→Q v' H
structure DP (X:Cx) (e:Expr) (i:Nat) (π:List Stp):Prop where
 go:PE X e (tP i π)
section
variable {X:Cx} {e:Expr} {i:Nat} {π:List Stp} {pos:Pos}
theorem dp_var {x:Str} (h:PE X (.Name x pos) (tVar i)):DP X (.Name x pos) i []:=.mk <| h.weak fun σ H Q ⟨v,d,d',L,hv,o,es,K⟩=>by
 have:d=d':=by simpa [sub] using es
 subst this
 exact ⟨v,hv,K v (by unfold At;exact ⟨rfl,rfl⟩)⟩
theorem dp_fld {C:Addr} {g:Str} (h:DP X e i π) (hk:Cls X.K C∧NoAttr X.K C g) (hb:attributeBase e g X.env (eval e X.env)=eval e X.env:=by rfl):DP X (.Attribute e g pos) i (π++[.f C g]):=.mk <|
 (pe_fld h.go hb).weak fun σ H Q ⟨v,d,d'',L,hv,o,es,K⟩=>by
  rw [jZ] at es
  cases e1:sub d π with
  | none=>rw [e1] at es;cases es
  | some d'=>
   rw [e1] at es
   refine ⟨v,d,d',L,hv,o,e1,fun v' a=>?_⟩
   obtain ⟨v'',a1,a2⟩:=At.one o a es
   match d',a1 with
   | .obj C' fs,a1=>
    unfold At at a1
    obtain ⟨rfl,p,dx,fvs,w,k,rfl,h1,he,hw,a1⟩:=a1
    unfold At at a1
    obtain ⟨rfl,rfl⟩:=a1
    exact ⟨p,C',dx,fvs,v'',rfl,h1,hk.1,hk.2,hw,K v'' a2⟩
end
def smut (i:Nat) (π:List Stp) (op:List D→Option (List D)):FS:=fun δ=>match δ[i]? with
 | some (some (.nw d))=>(sub d π).bind fun d'=>match d' with
  | .lst ds=>(op ds).bind fun ds'=>some (.nx (δ.set i (some (.nw (putAt d π (.lst ds'))))))
  | _=>none
 | _=>none
theorem StR.mut {H0 Hs0 Hs H:Hp} {δ:DSt} {σ:St} {i:Nat} {π:List Stp} {d:D} {ds:List D} {v:V} {l:V} (W:Wd H0 Hs0 Hs H) (S:StR H0 Hs H δ σ) (q:δ[i]?=some (some (.nw d))) (hv:σ[i]?=some (some v)) (a:At H d v π (.lst ds) l) :
  ∃ p vs M,l=.ref p∧H p=some (.lst vs)∧aF H ds vs M∧∀ ds' vs' M',aF H ds' vs' M'→(∀ b∈M',b∈M)→Wd H0 Hs0 Hs (L2.upd H p (.lst vs'))∧StR H0 Hs (L2.upd H p (.lst vs')) (δ.set i (some (.nw (putAt d π (.lst ds'))))) σ:=by
 obtain ⟨L,O,nL⟩:=S.rep q hv
 obtain ⟨M1,o1,s1,pt⟩:=Own.part O a
 have o1':=o1
 unfold Own at o1
 obtain ⟨p,vs,M,e1,h1,h2,n,rfl⟩:=o1
 refine ⟨p,vs,M,e1,h1,h2,fun ds' vs' M' o' sM=>?_⟩
 have nM':p∉M':=fun z=>n (sM _ z)
 obtain ⟨L',ol,sl⟩:=pt (L2.upd H p (.lst vs')) (.lst ds') (p::M') (fun b hb=>aA fun z=>hb (by rw [z];exact List.mem_cons_self)) (by
  unfold Own
  exact ⟨p,vs',M',e1,ax,o'.agree _ fun b hb=>aA fun z=>nM' (by rw [←z];exact hb),nM',rfl⟩) (fun b hb=>by
  rcases List.mem_cons.mp hb with rfl | hb
  ·
   exact List.mem_cons_self
  ·
   exact List.mem_cons_of_mem _ (sM b hb))
 have pL:p∈L:=s1 p List.mem_cons_self
 have:=S.upG (Hs':=Hs) (H':=L2.upd H p (.lst vs')) (e':=.nw (putAt d π (.lst ds'))) (v':=v) W q hv (fun b o nb eb=>by
   have:b≠p:=fun z=>nb ⟨L,O,by rw [z];exact pL⟩
   rw [aA this];exact eb) (fun b o eb=>by rw [aA (aN eb (nL p pL))];exact W.sub _ _ eb) (.refl _) (fun _ _ e=>.inl e) ⟨L',ol,fun b hb=>nL b (sl b hb)⟩
   (fun b ⟨L'',f,hb⟩=>.inl ⟨L,O,by rw [Own.uniq _ f ol] at hb;exact sl b hb⟩)
 rw [set_same hv] at this
 exact this
section
variable {X:Cx} {e o:Expr} {i:Nat} {π:List Stp} {pos apos cpos:Pos}
def ga (i:Nat) (π:List Stp) (f:FE):FS:=fun δ=>match δ[i]? with
 | some (some (.nw d))=>(sub d π).bind fun d'=>match d' with
  | .lst ds=>if ds.length≤big then (f δ).bind fun r=>match r with
   | .sh x=>if x.flat=true then some (.nx (δ.set i (some (.nw (putAt d π (.lst (ds++[x]))))))) else none
   | _=>none
   else none
  | _=>none
 | _=>none
theorem At.mono {H H':Hp} (k:aH H H'):∀ {π:List Stp} {d:D} {v:V} {d':D} {v':V},At H d v π d' v'→At H' d v π d' v'
 | [],d,v,d',v',h=>by unfold At at h ⊢;exact h
 | .f C g::π,.obj C' fs,v,d',v',h=>by
  unfold At at h ⊢
  obtain ⟨e0,p,dx,fvs,w,e,e1,h1,he,hw,a⟩:=h
  exact ⟨e0,p,dx,fvs,w,e,e1,k _ _ h1,he,hw,At.mono k a⟩
 | .x n::π,.lst ds,v,d',v',h=>by
  unfold At at h ⊢
  obtain ⟨p,vs,w,e,e1,h1,he,hw,a⟩:=h
  exact ⟨p,vs,w,e,e1,k _ _ h1,he,hw,At.mono k a⟩
 | .x n::π,.tup ds,v,d',v',h=>by
  unfold At at h ⊢
  obtain ⟨p,vs,w,e,e1,h1,he,hw,a⟩:=h
  exact ⟨p,vs,w,e,e1,k _ _ h1,he,hw,At.mono k a⟩
theorem kj {f:FE} (h:DP X o i π) (he:DE X e f) (hbase:attributeBase o "append" X.env (eval o X.env)=eval o X.env:=by rfl)
  (hfew:((backTo cpos (starEach [e] X.env)).all (fun x=>!x.1)&&(backToKw cpos (keywordEach [] X.env)).all (fun x=>x.1.isSome)
   &&decide ([e].length+([]:List Keyword).length+(if ([]:List Keyword).isEmpty then 0 else 1)<30))=true:=by rfl)
  (hline:(apos.endLine==cpos.line)=true:=by rfl) (hs:starEach [e] X.env=(false,eval e X.env)::starEach [] X.env:=by rfl)
  (hsw:swapsWith (.Call (.Attribute o "append" apos) [e] [] cpos) none pos.line X.env=pure false:=by rfl) :
  DS X (.Expr (.Call (.Attribute o "append" apos) [e] [] cpos) pos) (ga i π f):=.mk fun H0 Hs0=>
 (lu (pe_bm PySem.F.plainAttrs_list PySem.F.slot_list_append PySem.F.type_list_append iY h.go (bZ he.go dY hs) hbase hfew hline hs) hsw).weak fun D σ H ⟨Hs,δ,res,W,S,e,P⟩=>by
  unfold ga at e
  cases q:δ[i]? with
  | none=>rw [q] at e;cases e
  | some z=>
   rw [q] at e
   match z,e with
   | some (.nw d),e=>
    obtain ⟨v,hv,L,O,nL⟩:=S.ent i _ q
    cases es:sub d π with
    | none=>simp only [es] at e;cases e
    | some d'=>
     simp only [es,Option.bind] at e
     match d',e,es with
     | .lst ds,e,es=>
      replace e:(if ds.length≤big then (f δ).bind fun r=>match r with
       | .sh x=>if x.flat=true then some (Res.nx (δ.set i (some (.nw (putAt d π (.lst (ds++[x]))))))) else none
       | _=>none
       else none)=some res:=e
      by_cases hz:ds.length≤big
      ·
       rw [if_pos hz] at e
       cases ef:f δ with
       | none=>rw [ef] at e;cases e
       | some r=>
        rw [ef] at e
        refine ⟨v,d,_,L,hv,O,es,fun v' a=>?_⟩
        obtain ⟨p0,vs0,_,e0,h10,_⟩:=S.mut W q hv a
        subst e0
        refine ⟨.inl ⟨rfl,vs0,.of h10⟩,Hs,δ,r,W.sub,S.ent,ef,fun y Hs1 H1 W1 R1=>?_⟩
        match r,e,R1 with
        | .sh x,e,R1=>
         replace e:(if x.flat=true then some (Res.nx (δ.set i (some (.nw (putAt d π (.lst (ds++[x]))))))) else none)=some res:=e
         by_cases hf:x.flat=true
         ·
          rw [if_pos hf] at e
          cases e
          obtain ⟨p,vs,M,ep,h1,h2,K⟩:=(S.mono W1).mut (W.trans W1) q hv (At.mono W1.keep a)
          cases ep
          obtain ⟨W2,S2⟩:=K (ds++[x]) (vs++[y]) (M++[]) (h2.snoc (Own.flat hf R1) fun b _ hb=>by cases hb) (fun b hb=>by simpa using hb)
          refine ⟨_,vs,y,rfl,rfl,h1,?_,P σ Hs1 _ W2 S2⟩
          rw [h2.length];exact bP hz
         ·
          rw [if_neg hf] at e;cases e
      ·
       rw [if_neg hz] at e;cases e
end
end Ew
end
section
set_option Elab.async false
set_option linter.all false
set_option maxRecDepth 100000
namespace Ew
open PySem PySem.Spec L2
section
variable {X:Cx} {e:Expr} {es:List Expr} {fr:DSt→Option (List R)} {x:Str} {p pos:Pos} {id T:String}
theorem dn_u {qual:Str} {st:Stmt} {ps:List Str} {f:Addr} {fd:FuncData} {k n:Nat} {m:List D→Option D} (d:Df X.K X.mg x qual st ps f fd) (G:dL X.prog X.w X.K X.mg X.base CX0 k f fd ps (spN n m)) (hr:bq k X.A) (ha:DA X (e::es) fr)
 (hg:Gl X x:=by rfl) (hdb:(x==("__debug__" : Str))=false:=by decide) (he:starEach (e::es) X.env=(false,eval e X.env)::starEach es X.env:=by exact bx rfl) (hpl:(backTo pos (starEach es X.env)).any (·.1)=false:=by rfl) :
 DN X (.Call (.Name x p) (e::es) [] pos) (f9 n m fr):=.mk <| (lx (E:=E0) G hr hg d.mgx d.fn.kp d.bd .nil kY ha.go hdb he hpl).weak fun _ _ _=>tN_call
theorem dn_mk {C f:Addr} {fd:FuncData} {ps:List Str} {k n:Nat} {m:List D→Option (List (Str×D))} (M:Mk X.K C f) (G:dL X.prog X.w X.K X.mg X.base CX0 k f fd ps (spIN C n m)) (hb:Binds X.K fd ps []) (hm:X.mg x=some (.ref C)) (hr:bq (k+1) X.A) (ha:DA X (e::es) fr)
 (hg:Gl X x:=by rfl) (hdb:(x==("__debug__" : Str))=false:=by decide) (he:starEach (e::es) X.env=(false,eval e X.env)::starEach es X.env:=by exact bx rfl) (hpl:(backTo pos (starEach es X.env)).any (·.1)=false:=by rfl) :
 DN X (.Call (.Name x p) (e::es) [] pos) (dl C n m fr):=.mk <| (pe_make (E:=E0) M G hr hg hm hb .nil kY ha.go hdb he hpl).weak fun _ _ _=>tN_make
end
section
variable {δ:DSt} {f:FE} {g h:FN} {gs:DSt→Option (List D)} {fr:DSt→Option (List R)} {t:DSt→Option Bool} {F G:FS}
@[simp] theorem nflat_e:eQ f δ=(f δ).bind R.toN:=rfl
@[simp] theorem toN_sh (d:D):(R.sh d).toN=if d.flat=true then some d else none:=rfl
@[simp] theorem toN_fr (ds:List D):(R.fr ds).toN=if ds.all D.flat=true then some (.lst ds) else none:=rfl
@[simp] theorem dnw_e:dnw g δ=(g δ).map .sh:=rfl
@[simp] theorem nanil_e:nanil δ=some []:=rfl
@[simp] theorem nacons_e:fQ g gs δ=(g δ).bind fun d=>(gs δ).bind fun ds=>some (d::ds):=rfl
@[simp] theorem ntup_e:ntup gs δ=(gs δ).bind fun ds=>if ds.length≤big then some (.tup ds) else none:=rfl
@[simp] theorem nlst_e:nlst gs δ=(gs δ).bind fun ds=>if ds.length≤big then some (.lst ds) else none:=rfl
@[simp] theorem nif_e:nif t g h δ=(t δ).bind fun k=>if k=true then g δ else h δ:=rfl
@[simp] theorem ncall_e (n:Nat) (m:List D→Option D):f9 n m fr δ=(fr δ).bind fun rs=>if rs.length=n∧cT rs=true then m (rs.map R.view) else none:=rfl
@[simp] theorem lN (C:Addr) (n:Nat) (m:List D→Option (List (Str×D))):dl C n m fr δ=(fr δ).bind fun rs=>if rs.length=n∧cT rs=true then (m (rs.map R.view)).map (.obj C) else none:=rfl
@[simp] theorem ssetN_e (i:Nat):gX i g δ=(g δ).bind fun d=>some (.nx (δ.set i (some (.nw d)))):=rfl
@[simp] theorem sretN_e:iH g δ=(g δ).bind fun d=>some (.rn d):=rfl
@[simp] theorem ncomp_e (fi:DSt→Option (List D)) (g:GD) (c:DSt→Option Bool) (fe:FN) (m:Nat) (ix:List Nat):k9 fi g c fe m ix δ=(fi δ).bind fun items=>if items.length≤big then (cC g c fe (dIn m ix δ) items).map .lst else none:=rfl
@[simp] theorem runN_e (k:Nat) (F:FS) (ds:List D):runN k F ds=match F (ds.map (fun d=>some (.sh d))++List.replicate (k-ds.length) none) with
 | some (.rt r)=>r.toN
 | some (.nx _)=>some .non
 | some (.rn d)=>some d
 | _=>none:=rfl
@[simp] theorem sfldN_e (C C' a:Addr) (f:Str) (fs:List (Str×D)) (r:DSt):ki C f g (some (.on a (.obj C' fs))::r)=if C'=C∧fs.length<1000∧fs.lookup f=none then (g (some (.on a (.obj C' fs))::r)).bind fun d=>some (.nx (some (.on a (.obj C (fs++[(f,d)])))::r)) else none:=rfl
@[simp] theorem sifB_e (i:Nat):fx i t F G δ=(t (frz i δ)).bind fun b=>if b=true then F δ else G δ:=rfl
theorem cmapN_of (g:GD) (c:DSt→Option Bool) (fe:FN) (δ:DSt) {α:Type} (enc:α→D) (p:α→Bool) (out:α→D) (xs:List α)
  (h:∀ x∈xs,∃ δ1,g (enc x) δ=some δ1∧c δ1=some (p x)∧(p x=true→fe δ1=some (out x))) :
  cC g c fe δ (xs.map enc)=some ((xs.filter p).map out):=by
 induction xs with
 | nil=>rfl
 | cons x xs ih=>
  obtain ⟨δ1,h1,h2,h3⟩:=h x List.mem_cons_self
  have ih:=ih fun y hy=>h y (List.mem_cons_of_mem _ hy)
  rw [List.map_cons]
  unfold cC
  rw [h1]
  show ((c δ1).bind fun b=>if b=true then (fe δ1).bind fun r1=>(cC g c fe δ (xs.map enc)).bind fun t=>some (r1::t) else cC g c fe δ (xs.map enc))=_
  rw [h2]
  show (if p x=true then (fe δ1).bind fun r1=>(cC g c fe δ (xs.map enc)).bind fun t=>some (r1::t) else cC g c fe δ (xs.map enc))=_
  by_cases hp:p x=true
  ·
   rw [if_pos hp,h3 hp,ih]
   simp [hp,List.filter_cons]
  ·
   rw [if_neg hp,ih]
   simp [hp,List.filter_cons]
end
end Ew
end
section
set_option Elab.async false
set_option linter.all false
set_option maxRecDepth 100000
namespace Ew
open PySem PySem.Spec L2
theorem View.sq {K:PySem.W.Frag} {Hs H:Hp} (s:aH Hs H) {ds:List D} {v:V} (h:View Hs H (.lst ds) v):∃ a vs,v=.ref a∧SqL K H a vs∧ay Hs ds vs:=by
 rcases h with h | ⟨ds',a,vs,e,e2,h1,h2⟩
 ·
  unfold Rep at h
  obtain ⟨a,vs,e,h1,h2⟩:=h
  exact ⟨a,vs,e,.of (s _ _ h1),h2⟩
 ·
  cases e
  exact ⟨a,vs,e2,.of h1,h2⟩
end Ew
end
section
set_option Elab.async false
set_option linter.all false
set_option maxRecDepth 100000
namespace Ew
open PySem PySem.Spec L2
open Classical in
noncomputable def gb (K:PySem.W.Frag) (i:Nat) (δ:DSt):Option (List Int):=match δ[i]? with
 | some (some (.scr K' ns))=>if K'=K then some ns else none
 | _=>none
theorem jb {K:PySem.W.Frag} {i:Nat} {δ:DSt} {ns:List Int} (h:gb K i δ=some ns):δ[i]?=some (some (.scr K ns)):=by
 unfold gb at h
 split at h
 ·
  rename_i K' ns' e
  split at h
  ·
   rename_i ek
   cases h
   rw [e,ek]
  ·
   cases h
 ·
  cases h
noncomputable def dlenS (K:PySem.W.Frag) (i:Nat):FE:=fun δ=>(gb K i δ).map fun ns=>.sh (.int ns.length)
noncomputable def dixS (K:PySem.W.Frag) (i:Nat) (f:FE):FE:=fun δ=>(f δ).bind fun r=>match r with
 | .sh (.int k)=>(gb K i δ).bind fun ns=>(atI ns k).map fun n=>.sh (.int n)
 | _=>none
noncomputable def cj (K:PySem.W.Frag) (i:Nat) (m:List Int→Int→Option Int) (f:FE):FE:=fun δ=>(f δ).bind fun r=>match r with
 | .sh (.int k)=>(gb K i δ).bind fun ns=>(m ns k).map fun n=>.sh (.int n)
 | _=>none
def spS (K:PySem.W.Frag) (m:List Int→Int→Option Int):Sp:=fun vs H Q _=>∃ a k ns n,vs=[.ref a,.int k]∧SqL K H a (ns.map V.int)∧m ns k=some n∧∀ Hs H',aH H H'→Wd H H Hs H'→Q (.int n) H'
def spL (K:PySem.W.Frag) (m:List Int→Option D):Sp:=fun vs H Q _=>∃ a ns d,vs=[.ref a]∧SqL K H a (ns.map V.int)∧m ns=some d∧∀ v Hs' H',Wd H H Hs' H'→Rep Hs' d v→Q v H'
noncomputable def runS (k:Nat) (K:PySem.W.Frag) (F:FS) (ns:List Int) (n:Int):Option Int:=match F (some (.scr K ns)::some (.sh (.int n))::List.replicate (k-2) none) with
 | some (.rt (.sh (.int j)))=>some j
 | _=>none
noncomputable def runL (k:Nat) (K:PySem.W.Frag) (F:FS) (ns:List Int):Option D:=match F (some (.scr K ns)::List.replicate (k-1) none) with
 | some (.rt r)=>if r.isBw=true then none else some r.view
 | _=>none
theorem atI_map {α β:Type} {f:α→β} {xs:List α} {k:Int} {x:α} (h:atI xs k=some x):atI (xs.map f) k=some (f x):=by
 unfold atI at h ⊢
 simp only [List.length_map] at h ⊢
 cases e:ixN xs.length k with
 | none=>rw [e] at h;cases h
 | some j=>
  rw [e] at h
  replace h:xs[j]?=some x:=h
  show (xs.map f)[j]?=some (f x)
  rw [List.getElem?_map,h];rfl
section
variable {X:Cx} {e:Expr} {x:Str} {p pos:Pos} {i:Nat} {f:FE}
theorem de_lenS (h:PE X (.Name x p) (tVar i)) (hg:Gl X "len") (hm:X.mg "len" = none) (hs:starEach [.Name x p] X.env=[(false,eval (.Name x p) X.env)]:=by rfl) {p0:Pos} :
  DE X (.Call (.Name "len" p0) [.Name x p] [] pos) (dlenS X.K i):=.mk <| (ij fF hg hm PySem.boot_len (bZ h dY hs) (he:=hs)).weak fun σ H Q ⟨Hs,δ,r,S,En,e,K⟩=>by
 unfold dlenS at e
 cases es:gb X.K i δ with
 | none=>rw [es] at e;cases e
 | some ns=>
  rw [es] at e
  cases e
  obtain ⟨v,hv,a,ev,hq⟩:=En i _ (jb es)
  refine ⟨v,hv,a,ns.map V.int,by rw [ev],.inl (gt S hq),?_⟩
  rw [List.length_map]
  exact K _ Hs H (.refl S) (by show Rep Hs _ _;unfold Rep;rfl)
theorem de_ixS (h:PE X (.Name x p) (tVar i)) (hb:DE X e f) (hs:jU e):DE X (.Subscript (.Name x p) e pos) (dixS X.K i f):=.mk <| (pe_ix ix_list h hb.go hs).weak fun σ H Q ⟨Hs,δ,r,S,En,e,K⟩=>by
 unfold dixS at e
 cases ef:f δ with
 | none=>rw [ef] at e;cases e
 | some rf=>
  rw [ef] at e
  match rf,e with
  | .sh (.int k),e=>
   replace e:((gb X.K i δ).bind fun ns=>(atI ns k).map fun n=>R.sh (.int n))=some r:=e
   cases es:gb X.K i δ with
   | none=>rw [es] at e;cases e
   | some ns=>
    rw [es] at e
    replace e:((atI ns k).map fun n=>R.sh (.int n))=some r:=e
    cases ea:atI ns k with
    | none=>rw [ea] at e;cases e
    | some n=>
     rw [ea] at e
     cases e
     obtain ⟨v,hv,a,ev,hq⟩:=En i _ (jb es)
     refine ⟨v,hv,Hs,δ,.sh (.int k),S,En,ef,fun y Hs1 H1 W1 R1=>?_⟩
     have R1:Rep Hs1 (.int k) y:=R1
     unfold Rep at R1
     exact ⟨a,ns.map V.int,k,.int n,ev,R1,gt (S.trans W1.keep) hq,atI_map ea,K _ Hs1 H1 W1 (by show Rep Hs1 _ _;unfold Rep;rfl)⟩
theorem de_callS {y qual:Str} {st:Stmt} {ps:List Str} {fa:Addr} {fd:FuncData} {k:Nat} {m:List Int→Int→Option Int} {py:Pos} (d:Df X.K X.mg y qual st ps fa fd) (G:dL X.prog X.w X.K X.mg X.base CX0 k fa fd ps (spS X.K m)) (hr:bq k X.A)
  (h:PE X (.Name x p) (tVar i)) (hb:DE X e f)
  (hg:Gl X y:=by rfl) (hdb:(y==("__debug__" : Str))=false:=by decide) (he:starEach [.Name x p,e] X.env=(false,eval (.Name x p) X.env)::starEach [e] X.env:=by exact bx rfl) (hs:starEach [e] X.env=[(false,eval e X.env)]:=by exact bx rfl) (hpl:(backTo pos (starEach [e] X.env)).any (·.1)=false:=by rfl) :
  DE X (.Call (.Name y py) [.Name x p,e] [] pos) (cj X.K i m f):=.mk <| (lx (E:=E0) G hr hg d.mgx d.fn.kp d.bd .nil kY (bZ h (bZ hb.go dY hs) he) hdb he hpl).weak fun σ H Q ⟨Hs,δ,r,S,En,e,K⟩=>by
 unfold cj at e
 cases ef:f δ with
 | none=>rw [ef] at e;cases e
 | some rf=>
  rw [ef] at e
  match rf,e with
  | .sh (.int k),e=>
   replace e:((gb X.K i δ).bind fun ns=>(m ns k).map fun n=>R.sh (.int n))=some r:=e
   cases es:gb X.K i δ with
   | none=>rw [es] at e;cases e
   | some ns=>
    rw [es] at e
    replace e:((m ns k).map fun n=>R.sh (.int n))=some r:=e
    cases ea:m ns k with
    | none=>rw [ea] at e;cases e
    | some n=>
     rw [ea] at e
     cases e
     obtain ⟨v,hv,a,ev,hq⟩:=En i _ (jb es)
     refine ⟨v,hv,Hs,δ,.sh (.int k),S,En,ef,fun y Hs1 H1 W1 R1=>?_⟩
     have R1:Rep Hs1 (.int k) y:=R1
     unfold Rep at R1
     refine ⟨a,k,ns,n,by rw [ev,R1];rfl,gt (S.trans W1.keep) hq,ea,fun Hs2 H2 s2 W2=>?_⟩
     exact K _ Hs1 H2 (W1.trans ⟨s2,W1.sub.trans s2,.refl _,fun _ _ e=>.inl e⟩) (by show Rep Hs1 _ _;unfold Rep;rfl)
def sdrop (f:FE):FS:=fun δ=>(f δ).bind fun _=>some (.nx δ)
theorem ds_drop (h:DE X e f) (hs:swapsWith e none pos.line X.env=pure false:=by rfl):DS X (.Expr e pos) (sdrop f):=.mk fun H0 Hs0=>(lu h.go hs).weak fun D σ H ⟨Hs,δ,res,W,S,e,P⟩=>by
 unfold sdrop at e
 cases ef:f δ with
 | none=>rw [ef] at e;cases e
 | some r=>
  rw [ef] at e
  cases e
  exact ⟨Hs,δ,r,W.sub,S.ent,ef,fun v Hs1 H1 W1 R1=>P σ Hs1 H1 (W.trans W1) (S.mono W1)⟩
end
theorem st_scr {K:PySem.W.Frag} {H:Hp} {N:List Str} {a:Addr} {ns:List Int} {ds:List D} {vs:List V} (h:SqL K H a (ns.map V.int)) (r:ay H ds vs) :
  StR H H H (some (.scr K ns)::(ds.map (fun d=>some (E.sh d))++List.replicate (N.length-(ds.length+1)) none)) (L2.start N (.ref a::vs)):=by
 have get:∀ (i:Nat) (e:E),(some (.scr K ns)::(ds.map (fun d=>some (E.sh d))++List.replicate (N.length-(ds.length+1)) none))[i]?=some (some e)→(i=0∧e=.scr K ns)∨∃ j d,i=j+1∧ds[j]?=some d∧e=E.sh d:=fun i e h=>by
  cases i with
  | zero=>simp at h;exact .inl ⟨rfl,h.symm⟩
  | succ i=>
   right
   rw [List.getElem?_cons_succ] at h
   by_cases hi:i<ds.length
   ·
    rw [List.getElem?_append_left (by simpa using hi),List.getElem?_map] at h
    cases q:ds[i]? with
    | none=>rw [q] at h;cases h
    | some d=>rw [q] at h;cases h;exact ⟨i,d,rfl,q,rfl⟩
   ·
    rw [List.getElem?_append_right (by simpa using hi),List.getElem?_replicate] at h
    split at h <;> cases h
 have nf:∀ (i:Nat) (e:E) (v:V) (b:Addr),(some (.scr K ns)::(ds.map (fun d=>some (E.sh d))++List.replicate (N.length-(ds.length+1)) none))[i]?=some (some e)→¬Fp H e v b:=fun i e v b h f=>by
  rcases get i e h with ⟨_,rfl⟩ | ⟨_,d,_,_,rfl⟩ <;> cases f
 refine ⟨fun i e h'=>?_,?_,fun i e v b h _ f=>(nf i e v b h f).elim,fun i j e e' v v' b _ h _ _ _ f=>(nf i e v b h f).elim⟩
 ·
  rcases get i e h' with ⟨rfl,rfl⟩ | ⟨j,d,rfl,hd,rfl⟩
  ·
   exact ⟨.ref a,by unfold L2.start;simp,a,rfl,h⟩
  ·
   obtain ⟨v,hv,rv⟩:=r.get hd
   refine ⟨v,?_,rv⟩
   unfold L2.start
   have hi:j<vs.length:=(List.getElem?_eq_some_iff.mp hv).1
   rw [List.getElem?_append_left (by simpa using hi),List.getElem?_map,List.getElem?_cons_succ,hv]
   rfl
 ·
  unfold L2.start
  simp [r.length]
section
variable {P:Program} {w:World} {K:PySem.W.Frag} {mg:Str→Option Value} {base:Heap}
theorem fn_S {x qual:Str} {st:Stmt} {f:Addr} {fd:FuncData} {N:List Str} {p1 p2:Str} {k:Nat} {F:FS} (F0:Fun K x qual st f fd) (S:dM N [p1,p2] (ap st)) (hN:2≤N.length)
  (h:∀ (cdv:Value) (A:Around) (outer:List Env) (s:Shared) (H:Hp) (E:XK),bq k (A.deeper (PyProof.Rows.envOfC qual (ap st) s.heap.objs.size f cdv))→DSs (jJ CX0 P w K mg base N qual (ap st) f cdv A outer s H E).nox (aQ st) F) :
  dL P w K mg base CX0 (k+1) f fd [p1,p2] (spS K (runS N.length K F)):=by
 refine F0.ok S (fun vs H Q E hs=>?_) (fun cdv A outer s H vs Q E hr hs=>?_)
 ·
  obtain ⟨a,k,ns,n,e,_⟩:=hs;rw [e];rfl
 ·
  obtain ⟨a,j,ns,n,rfl,hq,em,post⟩:=hs
  refine ⟨_,(h cdv A outer s H E hr).go H H,?_⟩
  unfold runS at em
  cases eF:F (some (.scr K ns)::some (.sh (.int j))::List.replicate (N.length-2) none) with
  | none=>rw [eF] at em;cases em
  | some res=>
   rw [eF] at em
   have St:=st_scr (N:=N) (K:=K) (H:=H) (ds:=[.int j]) (vs:=[.int j]) hq (.cons (by unfold Rep;rfl) .nil)
   refine ⟨H,_,res,.refl (.refl _),St,eF,?_⟩
   match res,em with
   | .rt (.sh (.int j2)),em=>
    cases em
    intro v Hs1 H1 W1 R1
    have R1:Rep Hs1 (.int n) v:=R1
    unfold Rep at R1
    rw [R1]
    exact post Hs1 H1 W1.keep W1
theorem fn_L {x qual:Str} {st:Stmt} {f:Addr} {fd:FuncData} {N:List Str} {p1:Str} {k:Nat} {F:FS} (F0:Fun K x qual st f fd) (S:dM N [p1] (ap st)) (hN:1≤N.length)
  (h:∀ (cdv:Value) (A:Around) (outer:List Env) (s:Shared) (H:Hp) (E:XK),bq k (A.deeper (PyProof.Rows.envOfC qual (ap st) s.heap.objs.size f cdv))→DSs (jJ CX0 P w K mg base N qual (ap st) f cdv A outer s H E).nox (aQ st) F) :
  dL P w K mg base CX0 (k+1) f fd [p1] (spL K (runL N.length K F)):=by
 refine F0.ok S (fun vs H Q E hs=>?_) (fun cdv A outer s H vs Q E hr hs=>?_)
 ·
  obtain ⟨a,ns,n,e,_⟩:=hs;rw [e];rfl
 ·
  obtain ⟨a,ns,d,rfl,hq,em,post⟩:=hs
  refine ⟨_,(h cdv A outer s H E hr).go H H,?_⟩
  unfold runL at em
  cases eF:F (some (.scr K ns)::List.replicate (N.length-1) none) with
  | none=>rw [eF] at em;cases em
  | some res=>
   rw [eF] at em
   have St:=st_scr (N:=N) (K:=K) (H:=H) (ds:=[]) (vs:=[]) hq .nil
   refine ⟨H,_,res,.refl (.refl _),St,eF,?_⟩
   cases res with
   | nx δ=>cases em
   | bk δ=>cases em
   | ct δ=>cases em
   | rn d=>cases em
   | rt r1=>
    replace em:(if r1.isBw=true then none else some r1.view)=some d:=em
    by_cases hb:r1.isBw=true
    ·
     rw [if_pos hb] at em;cases em
    ·
     rw [if_neg hb] at em
     cases em
     intro v Hs1 H1 W1 R1
     obtain ⟨Hs2,q,W2⟩:=R1.share W1 (fun ds z=>hb (by rw [z];rfl))
     exact post v Hs2 H1 W2 q
end
end Ew
end
section
set_option linter.all false
namespace Ew
open PySem PySem.Spec L2
open Classical in
noncomputable def unif {α:Type} (f:Addr→Option α):Option α:=if h:∃ a,∀ p,f p=some a then some h.choose else none
theorem unif_all {α:Type} {f:Addr→Option α} {a:α} (h:unif f=some a):∀ p,f p=some a:=by
 unfold unif at h
 split at h
 ·
  rename_i e
  cases h
  exact e.choose_spec
 ·
  cases h
theorem lO {α:Type} {f:Addr→Option α} {a:α} (h:∀ p,f p=some a):unif f=some a:=by
 unfold unif
 rw [dif_pos ⟨a,h⟩]
 have e:∃ a,∀ p,f p=some a:=⟨a,h⟩
 have:=e.choose_spec 0
 rw [h 0] at this
 exact this.symm
def spLaw (K:PySem.W.Frag):Sp:=fun vs H Q _=>∃ (a:Addr) (ns:List Int),vs=[.ref a]∧ns.length≤63∧SqL K H a (ns.map V.int)∧∀ H',aH H H'→Q (.bl true) H'
theorem spLaw_imp {K:PySem.W.Frag} {m:List Int→Option D} (h:∀ ns:List Int,ns.length≤63→m ns=some (.bl true)):∀ vs H Q E,spLaw K vs H Q E→spL K m vs H Q E:=by
 rintro vs H Q E ⟨a,ns,rfl,hl,hq,k⟩
 refine ⟨a,ns,.bl true,rfl,hq,h ns hl,fun v Hs' H' W r=>?_⟩
 unfold Rep at r
 rw [r]
 exact k H' W.keep
theorem kl {K:PySem.W.Frag} {C:Addr}:PySem.W.kitOne K (.ref C) (.ref C)=some true:=by
 unfold PySem.W.kitOne
 rw [if_pos (by simp)]
theorem kit_sub {K:PySem.W.Frag} {C D:Addr} {oc:Value} {od:Option Addr} {cd:ClassData} {sl:Array (Option Value)} {b:Bool} (h1:K.lookup D=some ⟨oc,od,.cls cd,sl⟩) (h2:PySem.W.typeIn K (.ref D)=some (.type "type"))
  (h3:PySem.W.subIn K (.ref C) (.ref D)=some b) (hn:C≠D):PySem.W.kitOne K (.ref C) (.ref D)=some b:=by
 unfold PySem.W.kitOne
 rw [if_neg (by simpa using hn)]
 show (if ((PySem.W.clsIn K D).isSome&&PySem.W.typeIn K (.ref D)==some (.type "type"))=true then PySem.W.subIn K (.ref C) (.ref D) else none)=some b
 have hc:PySem.W.clsIn K D=some cd:=by
  unfold PySem.W.clsIn
  rw [show List.lookup D K=_ from h1]
 rw [hc,h2]
 simpa using h3
theorem kk_int (K:PySem.W.Frag):∀ d b,cY d=some b→∃ t,TyD K d t∧PySem.W.kitOne K t (.type "int")=some b:=fun d b h=>match d,h with
 | .non,h=>⟨_,.non,by cases h;with_unfolding_all rfl⟩
 | .bl _,h=>⟨_,.bl _,by cases h;with_unfolding_all rfl⟩
 | .int _,h=>⟨_,.int _,by cases h;with_unfolding_all rfl⟩
 | .str _,h=>⟨_,.str _,by cases h;with_unfolding_all rfl⟩
 | .lst _,h=>⟨_,.lst _,by cases h;with_unfolding_all rfl⟩
 | .tup _,h=>⟨_,.tup _,by cases h;with_unfolding_all rfl⟩
 | .obj _ _,h=>by cases h
theorem kk_bool (K:PySem.W.Frag):∀ d b,is_bool d=some b→∃ t,TyD K d t∧PySem.W.kitOne K t (.type "bool")=some b:=fun d b h=>match d,h with
 | .non,h=>⟨_,.non,by cases h;with_unfolding_all rfl⟩
 | .bl _,h=>⟨_,.bl _,by cases h;with_unfolding_all rfl⟩
 | .int _,h=>⟨_,.int _,by cases h;with_unfolding_all rfl⟩
 | .str _,h=>⟨_,.str _,by cases h;with_unfolding_all rfl⟩
 | .lst _,h=>⟨_,.lst _,by cases h;with_unfolding_all rfl⟩
 | .tup _,h=>⟨_,.tup _,by cases h;with_unfolding_all rfl⟩
 | .obj _ _,h=>by cases h
theorem kk_list (K:PySem.W.Frag):∀ d b,eP d=some b→∃ t,TyD K d t∧PySem.W.kitOne K t (.type "list")=some b:=fun d b h=>match d,h with
 | .non,h=>⟨_,.non,by cases h;with_unfolding_all rfl⟩
 | .bl _,h=>⟨_,.bl _,by cases h;with_unfolding_all rfl⟩
 | .int _,h=>⟨_,.int _,by cases h;with_unfolding_all rfl⟩
 | .str _,h=>⟨_,.str _,by cases h;with_unfolding_all rfl⟩
 | .lst _,h=>⟨_,.lst _,by cases h;with_unfolding_all rfl⟩
 | .tup _,h=>⟨_,.tup _,by cases h;with_unfolding_all rfl⟩
 | .obj _ _,h=>by cases h
theorem kk_tuple (K:PySem.W.Frag):∀ d b,iC d=some b→∃ t,TyD K d t∧PySem.W.kitOne K t (.type "tuple")=some b:=fun d b h=>match d,h with
 | .non,h=>⟨_,.non,by cases h;with_unfolding_all rfl⟩
 | .bl _,h=>⟨_,.bl _,by cases h;with_unfolding_all rfl⟩
 | .int _,h=>⟨_,.int _,by cases h;with_unfolding_all rfl⟩
 | .str _,h=>⟨_,.str _,by cases h;with_unfolding_all rfl⟩
 | .lst _,h=>⟨_,.lst _,by cases h;with_unfolding_all rfl⟩
 | .tup _,h=>⟨_,.tup _,by cases h;with_unfolding_all rfl⟩
 | .obj _ _,h=>by cases h
def Fx (K:PySem.W.Frag) (x qual:Str) (st:Stmt) (ps:List Str):Prop:=∃ f fd,PySem.W.nsIn K mainGlobals x=some (some (.ref f))∧Fun K x qual st f fd∧Binds K fd ps []
def FxL (K:PySem.W.Frag) (x qual:Str) (st:Stmt) (p:Str):Prop:=∃ f fd,PySem.W.nsIn K mainGlobals x=some (some (.ref f))∧Fun K x qual st f fd∧Binds K fd [p] []∧∀ (s:Shared) (u:Value),BindsTo s fd ⟨[u],[]⟩ [(p,u)]
def Fm (K:PySem.W.Frag) (C:Addr) (x qual:Str) (st:Stmt) (ps:List Str):Prop:=∃ f fd,PySem.W.findIn K (.ref C) x=some (some (.ref f))∧PySem.W.isFn K (.ref f)=true∧Fun K x qual st f fd∧Binds K fd ps []
section
variable {K:PySem.W.Frag} {C:Addr} {x qual p:Str} {st:Stmt} {ps:List Str} {f:Addr} {oc:Value} {od an:Option Addr} {osl:Array (Option Value)} {kV doc pm cdv ct:Value}
theorem fx_mk (e1:PySem.W.nsIn K mainGlobals x=some (some (.ref f))) (e2:K.lookup f=some ⟨oc,od,.func (PySem.W.fnOf x qual (ba st) (aQ st) (ap st) .none kV doc pm an cdv ct),osl⟩) (e3:PySem.W.codeIn K cdv qual=true) (e4:PySem.W.keepIn K (.ref f)=true)
  (h:∀ (kV doc pm:Value) (an:Option Addr) (cdv ct:Value) (us:List Value),us.length=ps.length→bindArgs (PySem.W.fnOf x qual (ba st) (aQ st) (ap st) .none kV doc pm an cdv ct) ⟨us,[]⟩=pure (ps.zip us)):Fx K x qual st ps:=
 ⟨f,_,e1,iZ e2 e3 e4,(iZ e2 e3 e4).binds h⟩
theorem fxl_mk (e1:PySem.W.nsIn K mainGlobals x=some (some (.ref f))) (e2:K.lookup f=some ⟨oc,od,.func (PySem.W.fnOf x qual (ba st) (aQ st) (ap st) .none kV doc pm an cdv ct),osl⟩) (e3:PySem.W.codeIn K cdv qual=true) (e4:PySem.W.keepIn K (.ref f)=true)
  (h:∀ (kV doc pm:Value) (an:Option Addr) (cdv ct:Value) (us:List Value),us.length=[p].length→bindArgs (PySem.W.fnOf x qual (ba st) (aQ st) (ap st) .none kV doc pm an cdv ct) ⟨us,[]⟩=pure ([p].zip us)):FxL K x qual st p:=
 ⟨f,_,e1,iZ e2 e3 e4,(iZ e2 e3 e4).binds h,fun s u=>.of_eq (h _ _ _ _ _ _ [u] rfl)⟩
theorem fm_mk (e1:PySem.W.findIn K (.ref C) x=some (some (.ref f))) (e2:K.lookup f=some ⟨oc,od,.func (PySem.W.fnOf x qual (ba st) (aQ st) (ap st) .none kV doc pm an cdv ct),osl⟩) (e3:PySem.W.codeIn K cdv qual=true) (e4:PySem.W.keepIn K (.ref f)=true) (e5:PySem.W.isFn K (.ref f)=true)
  (h:∀ (kV doc pm:Value) (an:Option Addr) (cdv ct:Value) (us:List Value),us.length=ps.length→bindArgs (PySem.W.fnOf x qual (ba st) (aQ st) (ap st) .none kV doc pm an cdv ct) ⟨us,[]⟩=pure (ps.zip us)):Fm K C x qual st ps:=
 ⟨f,_,e1,e5,iZ e2 e3 e4,(iZ e2 e3 e4).binds h⟩
end
end Ew
end
section
set_option Elab.async false
set_option linter.all false
set_option maxRecDepth 100000
namespace Ew
open PySem PySem.Spec L2
theorem Rep.tupS {Hs:Hp} {ds:List D} {x:V} (vw:Rep Hs (.tup ds) x):∃ a vs,x=.ref a∧Hs a=some (.tup vs)∧ay Hs ds vs:=by
 unfold Rep at vw
 exact vw
section
variable {X:Cx}
def dslT (f:FE) (fl fh:FO):FE:=fun δ=>(f δ).bind fun r=>(fl δ).bind fun lo=>(fh δ).bind fun hi=>match r with
 | .sh (.tup ds)=>if HT.sIx ds.length 0 lo=0∧HT.sIx ds.length ds.length hi=ds.length then none else some (.sh (.tup (cutD ds lo hi)))
 | _=>none
theorem de_slT {e:Expr} {lo hi:Option Expr} {f:FE} {fl fh:FO} {p2 pos:Pos} (he:DE X e f) (hl:DO X lo fl) (hh:DO X hi fh):DE X (.Subscript e (.Slice lo hi none p2) pos) (dslT f fl fh):=.mk <|
 (mw sl_tup he.go hl.go hh.go).weak fun σ H Q ⟨Hs,δ,r,S,En,e,K⟩=>by
  unfold dslT at e
  cases ef:f δ with
  | none=>rw [ef] at e;cases e
  | some rf=>
   cases el:fl δ with
   | none=>rw [ef,el] at e;cases e
   | some lo=>
    cases eh:fh δ with
    | none=>rw [ef,el,eh] at e;cases e
    | some hi=>
     rw [ef,el,eh] at e
     refine ⟨Hs,δ,rf,S,En,ef,fun x Hs1 H1 W1 R1=>⟨Hs1,δ,lo,W1.sub,En.mono W1,el,fun Hs2 H2 W2=>⟨Hs2,δ,hi,W2.sub,En.mono (W1.trans W2),eh,fun Hs3 H3 W3=>?_⟩⟩⟩
     have R3:=(R1.mono W2).mono W3
     cases rf with
     | sh d=>
      cases d with
      | tup ds=>
       replace e:(if HT.sIx ds.length 0 lo=0∧HT.sIx ds.length ds.length hi=ds.length then none else some (R.sh (.tup (cutD ds lo hi))))=some r:=e
       by_cases hc:HT.sIx ds.length 0 lo=0∧HT.sIx ds.length ds.length hi=ds.length
       ·
        rw [if_pos hc] at e;cases e
       ·
        rw [if_neg hc] at e
        cases e
        obtain ⟨a,vs,rfl,h1,h2⟩:=Rep.tupS R3
        have W13:=W1.trans (W2.trans W3)
        refine ⟨a,vs,rfl,.of (W3.sub _ _ h1),by rw [h2.length];exact hc,fun p hp=>K _ (L2.upd Hs3 p (.tup (cutV vs lo hi))) _ (W13.trans (.lay W3.sub hp)) ?_⟩
        show Rep _ (.tup _) _
        unfold Rep
        exact ⟨p,_,rfl,ax,ay.mono (.new (W3.sub.free hp)) _ (mK lo hi h2)⟩
      | _=>cases e
     | _=>cases e
@[simp] theorem dslT_e {f:FE} {fl fh:FO} {δ:DSt}:dslT f fl fh δ=(f δ).bind fun r=>(fl δ).bind fun lo=>(fh δ).bind fun hi=>match r with
 | .sh (.tup ds)=>if HT.sIx ds.length 0 lo=0∧HT.sIx ds.length ds.length hi=ds.length then none else some (.sh (.tup (cutD ds lo hi)))
 | _=>none:=rfl
end
end Ew
end
section
namespace Ew
open PySem PySem.Spec L2
section
variable {K:PySem.W.Frag} {C:Addr} {x qual p zx zq:Str} {st st':Stmt} {ps:List Str} {f:Addr} {oc:Value} {od an:Option Addr} {osl:Array (Option Value)} {kV doc pm cdv ct:Value}
theorem fx_mk2 (ex:x=zx) (eq:qual=zq) (es:st=st') (e1:PySem.W.nsIn K mainGlobals x=some (some (.ref f))) (e2:K.lookup f=some ⟨oc,od,.func (PySem.W.fnOf zx zq (ba st') (aQ st') (ap st') .none kV doc pm an cdv ct),osl⟩) (e3:PySem.W.codeIn K cdv qual=true) (e4:PySem.W.keepIn K (.ref f)=true)
  (h:∀ (kV doc pm:Value) (an:Option Addr) (cdv ct:Value) (us:List Value),us.length=ps.length→bindArgs (PySem.W.fnOf x qual (ba st) (aQ st) (ap st) .none kV doc pm an cdv ct) ⟨us,[]⟩=pure (ps.zip us)):Fx K x qual st ps:=by
 subst ex;subst eq;subst es;exact fx_mk e1 e2 e3 e4 h
theorem fxl_mk2 (ex:x=zx) (eq:qual=zq) (es:st=st') (e1:PySem.W.nsIn K mainGlobals x=some (some (.ref f))) (e2:K.lookup f=some ⟨oc,od,.func (PySem.W.fnOf zx zq (ba st') (aQ st') (ap st') .none kV doc pm an cdv ct),osl⟩) (e3:PySem.W.codeIn K cdv qual=true) (e4:PySem.W.keepIn K (.ref f)=true)
  (h:∀ (kV doc pm:Value) (an:Option Addr) (cdv ct:Value) (us:List Value),us.length=[p].length→bindArgs (PySem.W.fnOf x qual (ba st) (aQ st) (ap st) .none kV doc pm an cdv ct) ⟨us,[]⟩=pure ([p].zip us)):FxL K x qual st p:=by
 subst ex;subst eq;subst es;exact fxl_mk e1 e2 e3 e4 h
theorem fm_mk2 (ex:x=zx) (eq:qual=zq) (es:st=st') (e1:PySem.W.findIn K (.ref C) x=some (some (.ref f))) (e2:K.lookup f=some ⟨oc,od,.func (PySem.W.fnOf zx zq (ba st') (aQ st') (ap st') .none kV doc pm an cdv ct),osl⟩) (e3:PySem.W.codeIn K cdv qual=true) (e4:PySem.W.keepIn K (.ref f)=true) (e5:PySem.W.isFn K (.ref f)=true)
  (h:∀ (kV doc pm:Value) (an:Option Addr) (cdv ct:Value) (us:List Value),us.length=ps.length→bindArgs (PySem.W.fnOf x qual (ba st) (aQ st) (ap st) .none kV doc pm an cdv ct) ⟨us,[]⟩=pure (ps.zip us)):Fm K C x qual st ps:=by
 subst ex;subst eq;subst es;exact fm_mk e1 e2 e3 e4 e5 h
end
end Ew
end
section
set_option Elab.async false
set_option linter.all false
set_option maxRecDepth 100000
namespace Ew
open PySem PySem.Spec L2
structure Fb (K:PySem.W.Frag) (x qual:Str) (st:Stmt) (ps:List Str) where
 f:Addr
 fd:FuncData
 fn:Fun K x qual st f fd
 bd:Binds K fd ps []
structure Fd (K:PySem.W.Frag) (mg:Str→Option Value) (x:Str) (st:Stmt) (ps:List Str) extends Fb K x x st ps where
 mgx:mg x=some (.ref f)
structure Md (K:PySem.W.Frag) (C:Addr) (x qual:Str) (st:Stmt) (ps:List Str) extends Fb K x qual st ps where
 mt:Meth K C x f
structure Ni (K:PySem.W.Frag) (C:Addr) (qual:Str) (st:Stmt) (ps:List Str) extends Fb K "__init__" qual st ps where
 mk':Mk K C f
structure Cd (K:PySem.W.Frag) (mg:Str→Option Value) (C:Addr) (x:Str):Prop where
 cls:Cls K C
 g:mg x=some (.ref C)
def Ka (K:PySem.W.Frag) (f:D→Option Bool) (a:Addr):Prop:=∀ d b,f d=some b→∃ t,TyD K d t∧PySem.W.kitOne K t (.ref a)=some b
def pick:List (Addr×Bool)→Addr→Option Bool
  | [],_=>none
  | (a,b)::r,C=>if C=a then some b else pick r C
@[simp] theorem pick_nil (C:Addr):pick [] C=none:=rfl
@[simp] theorem pick_cons (a:Addr) (b:Bool) (r:List (Addr×Bool)) (C:Addr):pick ((a,b)::r) C=if C=a then some b else pick r C:=rfl
def isT (t:List (Addr×Bool)):D→Option Bool
 | .obj C _=>pick t C
 | _=>none
@[simp] theorem isT_obj (t:List (Addr×Bool)) (C:Addr) (fs:List (Str×D)):isT t (.obj C fs)=pick t C:=rfl
section
variable {K:PySem.W.Frag} {a C:Addr} {b:Bool} {t:List (Addr×Bool)}
theorem jc:Ka K (isT []) a:=fun d b h=>by cases d <;> cases h
theorem bA (o:∀ fs,TyD K (.obj C fs) (.ref C)) (k:PySem.W.kitOne K (.ref C) (.ref a)=some b) (r:Ka K (isT t) a):Ka K (isT ((C,b)::t)) a:=fun d b' h=>by
 cases d with
 | obj D fs=>
  replace h:(if D=C then some b else pick t D)=some b':=h
  split at h
  ·
   rename_i e
   cases h
   cases e
   exact ⟨_,o fs,k⟩
  ·
   exact r (.obj D fs) b' h
 | _=>cases h
end
theorem cd_mk {K:PySem.W.Frag} {mg:Str→Option Value} {h:Heap} (KX:K.In h) (G:h.Ns mainGlobals mg) {C:Addr} {x:Str} (e0:PySem.W.nsIn K mainGlobals x=some (some (.ref C))) (e1:PySem.W.plainGet K C Str.empty=true) (e2:PySem.W.hasDictIn K C=true) (e3:PySem.W.plainOver K C=true)
 (e4:PySem.W.findIn K (.ref C) "__setattr__" = some (some (.builtin "object.__setattr__"))):Cd K mg C x:=⟨⟨e1,e2,e3,e4⟩,PySem.W.mg_of KX G e0⟩
theorem ob_mk {K:PySem.W.Frag} {C:Addr} (c:Cls K C) (c2:PySem.W.specialIn K (.builtin "object.__class__") "__get__" = some (some (.builtin "getset_descriptor.__get__"))) (c3:PySem.W.takesIn K (.builtin "object.__class__")=some true)
 (c1:PySem.W.findIn K (.ref C) "__class__" = some (some (.builtin "object.__class__"))) (c4:PySem.W.mroIn K C (.type "object")=some true):∀ fs,TyD K (.obj C fs) (.ref C):=fun fs=>.obj _ c c1 c2 c3 c4
noncomputable def Fd.of {K:PySem.W.Frag} {mg:Str→Option Value} {h:Heap} (KX:K.In h) (G:h.Ns mainGlobals mg) {x:Str} {st:Stmt} {ps:List Str} (e:Fx K x x st ps):Fd K mg x st ps:=
 have e1:=e.choose_spec.choose_spec
 ⟨⟨e.choose,e.choose_spec.choose,e1.2.1,e1.2.2⟩,PySem.W.mg_of KX G e1.1⟩
noncomputable def Md.of {K:PySem.W.Frag} {C:Addr} {x q:Str} {st:Stmt} {ps:List Str} (e:Fm K C x q st ps):Md K C x q st ps:=
 have e1:=e.choose_spec.choose_spec
 ⟨⟨e.choose,e.choose_spec.choose,e1.2.2.1,e1.2.2.2⟩,⟨e1.1,e1.2.1,e1.2.2.1.kp⟩⟩
noncomputable def Ni.of {K:PySem.W.Frag} {C:Addr} {q:Str} {st:Stmt} {ps:List Str} (e:Fm K C "__init__" q st ps) (h1:PySem.W.makesIn K C=true) (h2:PySem.W.keepIn K (.ref C)=true):Ni K C q st ps:=
 have e1:=e.choose_spec.choose_spec
 ⟨⟨e.choose,e.choose_spec.choose,e1.2.2.1,e1.2.2.2⟩,⟨h1,e1.1,e1.2.1,h2⟩⟩
structure Fl' (K:PySem.W.Frag) (mg:Str→Option Value) (st:Stmt) extends Fd K mg "law" st ["_law_script"] where
 bl:∀ (s:Shared) (u:Value),BindsTo s fd ⟨[u],[]⟩ [("_law_script",u)]
noncomputable def Fl'.of {K:PySem.W.Frag} {mg:Str→Option Value} {h:Heap} (KX:K.In h) (G:h.Ns mainGlobals mg) {st:Stmt} (e:FxL K "law" "law" st "_law_script"):Fl' K mg st:=
 have e1:=e.choose_spec.choose_spec
 ⟨⟨⟨e.choose,e.choose_spec.choose,e1.2.1,e1.2.2.1⟩,PySem.W.mg_of KX G e1.1⟩,e1.2.2.2⟩
section
variable {K:PySem.W.Frag} {C:Addr} {x qual p zx zq:Str} {st st':Stmt} {ps:List Str} {f:Addr} {oc:Value} {od an:Option Addr} {osl:Array (Option Value)} {kV doc pm cdv ct:Value}
abbrev Bnd (x qual:Str) (st:Stmt) (ps:List Str):Prop:=∀ (kV doc pm:Value) (an:Option Addr) (cdv ct:Value) (us:List Value),us.length=ps.length→bindArgs (PySem.W.fnOf x qual (ba st) (aQ st) (ap st) .none kV doc pm an cdv ct) ⟨us,[]⟩=pure (ps.zip us)
theorem fx2 (es:st=st') (e1:PySem.W.nsIn K mainGlobals x=some (some (.ref f))) (e2:K.lookup f=some ⟨oc,od,.func (PySem.W.fnOf zx zq (ba st') (aQ st') (ap st') .none kV doc pm an cdv ct),osl⟩) (e3:PySem.W.codeIn K cdv qual=true) (e4:PySem.W.keepIn K (.ref f)=true)
 (h:Bnd x qual st ps:=by first | (exact fun _ _ _ _ _ _ us hl=>match us,hl with | [_],_=>rfl) | (exact fun _ _ _ _ _ _ us hl=>match us,hl with | [_,_],_=>rfl) | (exact fun _ _ _ _ _ _ us hl=>match us,hl with | [_,_,_],_=>rfl) | (exact fun _ _ _ _ _ _ us hl=>match us,hl with | [_,_,_,_],_=>rfl) | (exact fun _ _ _ _ _ _ us hl=>match us,hl with | [_,_,_,_,_],_=>rfl))
 (ex:x=zx:=by kernel_rfl) (eq:qual=zq:=by kernel_rfl):Fx K x qual st ps:=fx_mk2 ex eq es e1 e2 e3 e4 h
theorem fxl2 (es:st=st') (e1:PySem.W.nsIn K mainGlobals x=some (some (.ref f))) (e2:K.lookup f=some ⟨oc,od,.func (PySem.W.fnOf zx zq (ba st') (aQ st') (ap st') .none kV doc pm an cdv ct),osl⟩) (e3:PySem.W.codeIn K cdv qual=true) (e4:PySem.W.keepIn K (.ref f)=true)
 (h:Bnd x qual st [p]:=by (exact fun _ _ _ _ _ _ us hl=>match us,hl with | [_],_=>rfl)) (ex:x=zx:=by kernel_rfl) (eq:qual=zq:=by kernel_rfl):FxL K x qual st p:=fxl_mk2 ex eq es e1 e2 e3 e4 h
theorem fm2 (es:st=st') (e1:PySem.W.findIn K (.ref C) x=some (some (.ref f))) (e2:K.lookup f=some ⟨oc,od,.func (PySem.W.fnOf zx zq (ba st') (aQ st') (ap st') .none kV doc pm an cdv ct),osl⟩) (e3:PySem.W.codeIn K cdv qual=true) (e4:PySem.W.keepIn K (.ref f)=true) (e5:PySem.W.isFn K (.ref f)=true)
 (h:Bnd x qual st ps:=by first | (exact fun _ _ _ _ _ _ us hl=>match us,hl with | [_],_=>rfl) | (exact fun _ _ _ _ _ _ us hl=>match us,hl with | [_,_],_=>rfl) | (exact fun _ _ _ _ _ _ us hl=>match us,hl with | [_,_,_],_=>rfl) | (exact fun _ _ _ _ _ _ us hl=>match us,hl with | [_,_,_,_],_=>rfl) | (exact fun _ _ _ _ _ _ us hl=>match us,hl with | [_,_,_,_,_],_=>rfl))
 (ex:x=zx:=by kernel_rfl) (eq:qual=zq:=by kernel_rfl):Fm K C x qual st ps:=fm_mk2 ex eq es e1 e2 e3 e4 e5 h
end
abbrev Ok {K:PySem.W.Frag} {x q:Str} {st:Stmt} {ps:List Str} (P:Program) (w:World) (mg:Str→Option Value) (base:Heap) (k:Nat) (F:Fb K x q st ps) (sp:Sp):Prop:=dL P w K mg base CX0 k F.f F.fd ps sp
def gl (N ps:List Str) (sc:Scope):Bool:=sc.kind==.function&&!sc.isCoroutine&&!sc.isGenerator&&decide N.Nodup&&N.take ps.length==ps&&ps.all (fun x=>sc.names.lookup x==some .local||sc.names.lookup x==some .cell)&&sc.names.all (fun y=>!(y.2==.free))
theorem gl.fs {N ps:List Str} {sc:Scope} (h:gl N ps sc=true):dM N ps sc:=by
 unfold gl at h
 simp only [Bool.and_eq_true] at h
 obtain ⟨⟨⟨⟨⟨⟨a,b⟩,c⟩,d⟩,e⟩,f⟩,g⟩:=h
 refine ⟨by simpa using a,by simpa using b,by simpa using c,by simpa using d,by simpa using e,fun x hx=>?_,fun y hy z=>?_⟩
 ·
  have:=List.all_eq_true.mp f x hx
  simpa using this
 ·
  have:=List.all_eq_true.mp g y hy
  simp [z] at this
section
variable {P:Program} {w:World} {K:PySem.W.Frag} {mg:Str→Option Value} {base:Heap} {x q:Str} {st:Stmt} {ps:List Str} {k:Nat} {F:FS}
abbrev Bod (P:Program) (w:World) (mg:Str→Option Value) (base:Heap) (k:Nat) (F0:Fb K x q st ps) (L:List Str) (F:FS):Prop:=
 ∀ (cdv:Value) (A:Around) (outer:List Env) (s:Shared) (H:Hp) (E:XK),bq k (A.deeper (PyProof.Rows.envOfC q (ap st) s.heap.objs.size F0.f cdv))→(ps++L).Nodup→DSs (jJ CX0 P w K mg base (ps++L) q (ap st) F0.f cdv A outer s H E).nox (aQ st) F
theorem fD {F0:Fb K x q st ps} (L:List Str) (h:Bod P w mg base k F0 L F) (S:gl (ps++L) ps (ap st)=true:=by kernel_rfl):Ok P w mg base (k+1) F0 (spD ps.length (run (ps++L).length F)):=
 fn_D F0.fn (gl.fs S) fun cdv A o s H E hr=>h cdv A o s H E hr (gl.fs S).nd
theorem fN {F0:Fb K x q st ps} (L:List Str) (h:Bod P w mg base k F0 L F) (S:gl (ps++L) ps (ap st)=true:=by kernel_rfl):Ok P w mg base (k+1) F0 (spN ps.length (runN (ps++L).length F)):=
 fn_N F0.fn (gl.fs S) fun cdv A o s H E hr=>h cdv A o s H E hr (gl.fs S).nd
theorem fI {F0:Fb K x q st ps} {C:Addr} {n:Nat} (L:List Str) (h:Bod P w mg base k F0 L F) (hn:ps.length=n+1:=by rfl) (S:gl (ps++L) ps (ap st)=true:=by kernel_rfl):Ok P w mg base (k+1) F0 (spIN C n (fun ds=>unif fun p=>iK (ps++L).length C F ds p)):=
 fn_IN hn F0.fn (gl.fs S) (fun ds fs h=>unif_all h) fun cdv A o s H E hr=>h cdv A o s H E hr (gl.fs S).nd
theorem fS {p1 p2:Str} {F0:Fb K x q st [p1,p2]} (L:List Str) (h:Bod P w mg base k F0 L F) (S:gl ([p1,p2]++L) [p1,p2] (ap st)=true:=by kernel_rfl):Ok P w mg base (k+1) F0 (spS K (runS ([p1,p2]++L).length K F)):=
 fn_S F0.fn (gl.fs S) (by simp) fun cdv A o s H E hr=>h cdv A o s H E hr (gl.fs S).nd
theorem fL {p1:Str} {F0:Fb K x q st [p1]} (L:List Str) (h:Bod P w mg base k F0 L F) (S:gl ([p1]++L) [p1] (ap st)=true:=by kernel_rfl):Ok P w mg base (k+1) F0 (spL K (runL ([p1]++L).length K F)):=
 fn_L F0.fn (gl.fs S) (by simp) fun cdv A o s H E hr=>h cdv A o s H E hr (gl.fs S).nd
end
section
variable {X:Cx} {a b c d e o:Expr} {es:List Expr} {fa fb fc fd fo f:FE} {g:FN} {fr:DSt→Option (List R)} {x y q:Str} {st:Stmt} {ps:List Str} {p pos pos' apos:Pos} {i j k n m':Nat} {C:Addr} {m:List D→Option D} {F G:FS} {body:List Stmt}
theorem dv (hN:X.N[i]?=some x:=by rfl) (hv:Vis X.env.scope x:=by first | exact Or.inl rfl | exact Or.inr (Or.inl rfl) | exact Or.inr (Or.inr rfl)) (hd:(x==("__debug__" : Str))=false:=by decide)
 (hcd:(x==("__classdict__" : Str))=false:=by decide):DE X (.Name x pos) (aa i):=de_var (pv i hN hv hd hcd)
theorem dk {z:Int} (h:∃ t,X.mg x=some (.int z t)) (hg:Gl X x:=by rfl) (hd:(x==("__debug__" : Str))=false:=by decide):DE X (.Name x pos) (ac (.int z)):=by
 obtain ⟨t,h⟩:=h
 exact lC (pe_glob (v:=.int z) hg h ⟨_,rfl⟩ hd) fun H=>by unfold Rep;rfl
theorem dx (ha:DE X a fa) (hb:DE X b fb) (hs:jU b:=by exact fun _ _=>rfl):DE X (.Subscript a b pos) (ad oIx fa fb):=de_ix ix_oIx ha hb hs
theorem d1 (ha:DE X e fa) (hs:starEach [e] X.env=(false,eval e X.env)::starEach [] X.env:=by exact bx rfl):DA X [e] (ab fa ah):=ae ha i7 hs
theorem du {F:Fd X.K X.mg x st ps} (G:Ok X.prog X.w X.mg X.base k F.toFb (spD n m)) (hr:bq j X.A) (ha:DA X (e::es) fr) (hk:k≤j:=by decide)
 (hg:Gl X x:=by rfl) (hdb:(x==("__debug__" : Str))=false:=by decide) (he:starEach (e::es) X.env=(false,eval e X.env)::starEach es X.env:=by exact bx rfl) (hpl:(backTo pos (starEach es X.env)).any (·.1)=false:=by rfl) :
 DE X (.Call (.Name x p) (e::es) [] pos) (aq n m fr):=de_u ⟨F.fn,F.mgx,F.bd⟩ G (hr.mono hk) ha hg hdb he hpl
theorem nu {F:Fd X.K X.mg x st ps} (G:Ok X.prog X.w X.mg X.base k F.toFb (spN n m)) (hr:bq j X.A) (ha:DA X (e::es) fr) (hk:k≤j:=by decide)
 (hg:Gl X x:=by rfl) (hdb:(x==("__debug__" : Str))=false:=by decide) (he:starEach (e::es) X.env=(false,eval e X.env)::starEach es X.env:=by exact bx rfl) (hpl:(backTo pos (starEach es X.env)).any (·.1)=false:=by rfl) :
 DN X (.Call (.Name x p) (e::es) [] pos) (f9 n m fr):=dn_u ⟨F.fn,F.mgx,F.bd⟩ G (hr.mono hk) ha hg hdb he hpl
theorem nk {F:Ni X.K C q st ps} {m:List D→Option (List (Str×D))} (c:Cd X.K X.mg C x) (G:Ok X.prog X.w X.mg X.base k F.toFb (spIN C n m)) (hr:bq j X.A) (ha:DA X (e::es) fr) (hk:k+1≤j:=by decide)
 (hg:Gl X x:=by rfl) (hdb:(x==("__debug__" : Str))=false:=by decide) (he:starEach (e::es) X.env=(false,eval e X.env)::starEach es X.env:=by exact bx rfl) (hpl:(backTo pos (starEach es X.env)).any (·.1)=false:=by rfl) :
 DN X (.Call (.Name x p) (e::es) [] pos) (dl C n m fr):=dn_mk F.mk' G F.bd c.g (hr.mono hk) ha hg hdb he hpl
theorem dm {F:Md X.K C x q st ps} {pl:Sem Bool} (c:Cls X.K C) (G:Ok X.prog X.w X.mg X.base k F.toFb (spD n m)) (hr:bq j X.A) (ho:DE X o fo) (ha:DA X (e::es) fr) (hk:k≤j:=by decide)
  (hst:starEach (e::es) X.env=(false,eval e X.env)::starEach es X.env:=by rfl) (hpl:(backTo pos (starEach es X.env)).any (·.1)=false:=by rfl)
  (ht:eval (.Call (.Attribute o x apos) (e::es) [] pos) X.env=(do
   let ov ←eval o X.env
   standAt apos.atName
   let (f,first) ←holding [ov] (getMethod ov x pl)
   callWith pos f first (backTo pos (starEach (e::es) X.env)) (backToKw pos (keywordEach [] X.env))):=by rfl):DE X (.Call (.Attribute o x apos) (e::es) [] pos) (bB C x n m fo fr):=
 de_m (pe_meth (E:=E0) ho.go c F.mt G (hr.mono hk) F.bd .nil kY ha.go hst hpl ht)
theorem dm0 {F:Md X.K C x q st ps} {pl:Sem Bool} (c:Cls X.K C) (G:Ok X.prog X.w X.mg X.base k F.toFb (spD n m)) (hr:bq j X.A) (ho:DE X o fo) (hk:k≤j:=by decide)
  (ht:eval (.Call (.Attribute o x apos) [] [] pos) X.env=(do
   let ov ←eval o X.env
   standAt apos.atName
   let (f,first) ←holding [ov] (getMethod ov x pl)
   callWith pos f first (backTo pos (starEach [] X.env)) (backToKw pos (keywordEach [] X.env))):=by rfl):DE X (.Call (.Attribute o x apos) [] [] pos) (bB C x n m fo ah):=
 de_m0 (pe_meth0 (E:=E0) ho.go c F.mt G (hr.mono hk) F.bd .nil kY ht)
theorem duS {F:Fd X.K X.mg y st ps} {m:List Int→Int→Option Int} {py:Pos} (G:Ok X.prog X.w X.mg X.base k F.toFb (spS X.K m)) (hr:bq j X.A) (h:PE X (.Name x p) (tVar i)) (hb:DE X e f) (hk:k≤j:=by decide)
 (hg:Gl X y:=by rfl) (hdb:(y==("__debug__" : Str))=false:=by decide) (he:starEach [.Name x p,e] X.env=(false,eval (.Name x p) X.env)::starEach [e] X.env:=by exact bx rfl) (hs:starEach [e] X.env=[(false,eval e X.env)]:=by exact bx rfl) (hpl:(backTo pos (starEach [e] X.env)).any (·.1)=false:=by rfl) :
 DE X (.Call (.Name y py) [.Name x p,e] [] pos) (cj X.K i m f):=de_callS ⟨F.fn,F.mgx,F.bd⟩ G (hr.mono hk) h hb hg hdb he hs hpl
theorem df (ho:DE X o fo) (hc:Cls X.K C) (hk:NoAttr X.K C x) (hb:attributeBase o x X.env (eval o X.env)=eval o X.env:=by rfl):DE X (.Attribute o x pos) (bh (isC C) x fo):=de_fld ho (fun C' h=>by rw [isC_of h];exact ⟨hc,hk⟩) hb
theorem lP (he:DE X e f) (h1:X.mg "int" = none) (h2:X.mg "isinstance" = none) (hs:starEach [e,.Name "int" p] X.env=(false,eval e X.env)::starEach [.Name "int" p] X.env:=by rfl) (hg:Gl X "int":=by rfl) (hg2:Gl X "isinstance":=by rfl) :
 DE X (.Call (.Name "isinstance" apos) [e,.Name "int" p] [] pos) (aw cY f):=fv he (jS (v:=.ty "int") hg h1 PyProof.Rows.boot_int rfl) (.inl ⟨_,rfl⟩) rfl (kk_int _) hg2 h2 hs
theorem j0 (he:DE X e f) (h1:X.mg "bool" = none) (h2:X.mg "isinstance" = none) (hs:starEach [e,.Name "bool" p] X.env=(false,eval e X.env)::starEach [.Name "bool" p] X.env:=by rfl) (hg:Gl X "bool":=by rfl) (hg2:Gl X "isinstance":=by rfl) :
 DE X (.Call (.Name "isinstance" apos) [e,.Name "bool" p] [] pos) (aw is_bool f):=fv he (jS (v:=.ty "bool") hg h1 PyProof.Rows.boot_bool rfl) (.inl ⟨_,rfl⟩) rfl (kk_bool _) hg2 h2 hs
theorem lQ (he:DE X e f) (h1:X.mg "list" = none) (h2:X.mg "isinstance" = none) (hs:starEach [e,.Name "list" p] X.env=(false,eval e X.env)::starEach [.Name "list" p] X.env:=by rfl) (hg:Gl X "list":=by rfl) (hg2:Gl X "isinstance":=by rfl) :
 DE X (.Call (.Name "isinstance" apos) [e,.Name "list" p] [] pos) (aw eP f):=fv he (jS (v:=.ty "list") hg h1 PyProof.Rows.boot_list rfl) (.inl ⟨_,rfl⟩) rfl (kk_list _) hg2 h2 hs
theorem ii_tuple (he:DE X e f) (h1:X.mg "tuple" = none) (h2:X.mg "isinstance" = none) (hs:starEach [e,.Name "tuple" p] X.env=(false,eval e X.env)::starEach [.Name "tuple" p] X.env:=by rfl) (hg:Gl X "tuple":=by rfl) (hg2:Gl X "isinstance":=by rfl) :
 DE X (.Call (.Name "isinstance" apos) [e,.Name "tuple" p] [] pos) (aw iC f):=fv he (jS (v:=.ty "tuple") hg h1 PyProof.Rows.boot_tuple rfl) (.inl ⟨_,rfl⟩) rfl (kk_tuple _) hg2 h2 hs
theorem ii_c {ans:D→Option Bool} (he:DE X e f) (h1:Cd X.K X.mg C x) (hk:Ka X.K ans C) (h2:X.mg "isinstance" = none) (hs:starEach [e,.Name x p] X.env=(false,eval e X.env)::starEach [.Name x p] X.env:=by rfl) (hg:Gl X x:=by rfl) (hg2:Gl X "isinstance":=by rfl) (hd:(x==("__debug__" : Str))=false:=by decide) :
 DE X (.Call (.Name "isinstance" apos) [e,.Name x p] [] pos) (aw ans f):=fv he (pe_glob (v:=.ref C) hg h1.g rfl hd) (.inr ⟨_,rfl⟩) rfl hk hg2 h2 hs
theorem km (hm:X.mg "len" = none) (ha:DE X e f) (hg:Gl X "len":=by rfl) (he:starEach [e] X.env=(false,eval e X.env)::starEach [] X.env:=by exact bx rfl):DE X (.Call (.Name "len" p) [e] [] pos) (az eM (ab f ah)):=gW c_len PySem.boot_len hm (d1 ha he) hg (he:=he)
theorem b_all (hm:X.mg "all" = none) (ha:DE X e f) (hc:X.calm=true:=by rfl) (hg:Gl X "all":=by rfl) (he:starEach [e] X.env=(false,eval e X.env)::starEach [] X.env:=by exact bx rfl):DE X (.Call (.Name "all" p) [e] [] pos) (az i9 (ab f ah)):=gW (c_all hc) PyProof.Rows.boot_all hm (d1 ha he) hg (he:=he)
theorem c_eq (ha:DE X a fa) (hb:DE X b fb) (hr:bq j X.A):DE X (.Compare a [.Eq] [b] pos) (ad oEq fa fb):=de_cmp (op_oEq (hu64 hr)) ha hb (j6 _)
theorem c_ne (ha:DE X a fa) (hb:DE X b fb) (hr:bq j X.A):DE X (.Compare a [.NotEq] [b] pos) (ad oNe fa fb):=de_cmp (op_oNe (hu64 hr)) ha hb (j6 _)
theorem c_in (ha:DE X a fa) (hb:DE X b fb) (hr:bq j X.A) (hm:behindInMarks .In b=false:=by with_unfolding_all rfl):DE X (.Compare a [.In] [b] pos) (ad oIn fa fb):=de_cmp (op_oIn (hu64 hr)) ha hb hm
theorem t_eq (ha:DE X a fa) (hb:DE X b fb) (hr:bq j X.A):DT X (.Compare a [.Eq] [b] pos) (aj (ad oEq fa fb)):=j9 (op_oEq (hu64 hr)) ha hb (j6 _)
theorem t_ne (ha:DE X a fa) (hb:DE X b fb) (hr:bq j X.A):DT X (.Compare a [.NotEq] [b] pos) (aj (ad oNe fa fb)):=j9 (op_oNe (hu64 hr)) ha hb (j6 _)
theorem t_in (ha:DE X a fa) (hb:DE X b fb) (hr:bq j X.A) (hm:behindInMarks .In b=false:=by with_unfolding_all rfl):DT X (.Compare a [.In] [b] pos) (aj (ad oIn fa fb)):=j9 (op_oIn (hu64 hr)) ha hb hm
theorem t_ni (ha:DE X a fa) (hb:DE X b fb) (hr:bq j X.A) (hm:behindInMarks .NotIn b=false:=by with_unfolding_all rfl):DT X (.Compare a [.NotIn] [b] pos) (aj (ad oNotIn fa fb)):=j9 (op_oNotIn (hu64 hr)) ha hb hm
theorem tc2 {op:CmpOp} {o:D→D→Option R} (ho:OpR X (compareOp op) (rD o)) (ha:DE X a fa) (hb:DE X b fb) (hm:behindInMarks op b=false:=by exact j6 _):DT X (.Compare a [op] [b] pos) (aj (ad o fa fb)):=j9 ho ha hb hm
theorem t_and {tf tg:DSt→Option Bool} (ha:DT X a tf) (hb:DT X b tg):DT X (.BoolOp .And [a,b] pos) (dI tf tg):=(dw_and ha (dw_and1 hb)).dt
theorem t_or {tf tg:DSt→Option Bool} (ha:DT X a tf) (hb:DT X b tg):DT X (.BoolOp .Or [a,b] pos) (bo tf tg):=(gU ha (lF hb)).dt
theorem t_or3 {tf tg th:DSt→Option Bool} (ha:DT X a tf) (hb:DT X b tg) (hc:DT X c th):DT X (.BoolOp .Or [a,b,c] pos) (bo tf (bo tg th)):=(gU ha (gU hb (lF hc))).dt
abbrev Inn (X:Cx) (N:List Str) (scope:Scope) (tg elt:Expr) (ifs:List Expr) (ks:List Nat) (g:GD) (c:DSt→Option Bool) (fe:FE):Prop:=N.Nodup→∀ cl C s H fp,DG (bg X N scope cl C s H fp) tg ks g∧DIfs (bg X N scope cl C s H fp) ifs c∧DE (bg X N scope cl C s H fp) elt fe
abbrev InN (X:Cx) (N:List Str) (scope:Scope) (tg elt:Expr) (ifs:List Expr) (ks:List Nat) (g:GD) (c:DSt→Option Bool) (fe:FN):Prop:=N.Nodup→∀ cl C s H fp,DG (bg X N scope cl C s H fp) tg ks g∧DIfs (bg X N scope cl C s H fp) ifs c∧DN (bg X N scope cl C s H fp) elt fe
section
variable {scope:Scope} {tg iter elt:Expr} {ifs:List Expr} {ks ix:List Nat} {fi:DSt→Option (List D)} {g:GD} {c:DSt→Option Bool} {fe:FE} {fn:FN} {spos py:Pos}
theorem dc (N:List Str) (hi:DI X tg iter fi) (hin:Inn X N scope tg elt ifs ks g c fe) (hc:X.calm=true:=by rfl) (S:kf X.env.scope X.N N n ix scope=true:=by kernel_rfl) (nd:N.Nodup:=by decide +kernel) (hk:∀ j∈ks,j<n:=by decide)
 (hs:∀ x,foldedSetIterable iter X.env x=pure x:=by intro _;rfl):DE X (.ListComp elt [⟨tg,iter,ifs,0⟩] scope pos) (bI fi g c fe n ix):=de_comp hc (i8 rfl rfl S) hk hi (hin nd) hs
theorem nc (N:List Str) (hi:DI X tg iter fi) (hin:InN X N scope tg elt ifs ks g c fn) (hc:X.calm=true:=by rfl) (S:kf X.env.scope X.N N n ix scope=true:=by kernel_rfl) (nd:N.Nodup:=by decide +kernel) (hk:∀ j∈ks,j<n:=by decide)
 (hs:∀ x,foldedSetIterable iter X.env x=pure x:=by intro _;rfl):DN X (.ListComp elt [⟨tg,iter,ifs,0⟩] scope pos) (k9 fi g c fn n ix):=dn_comp hc (i8 rfl rfl S) hk hi (hin nd) hs
theorem sc (N:List Str) (hN:X.N.Nodup) (hi:DI X tg iter fi) (hin:Inn X N scope tg elt ifs ks g c fe) (hc:X.calm=true:=by rfl) (S:kf X.env.scope X.N N n ix scope=true:=by kernel_rfl) (nd:N.Nodup:=by decide +kernel) (hk:∀ j∈ks,j<n:=by decide)
 (hiy:X.N[i]?=some y:=by rfl) (hy:Loc X.env.scope y:=by first | exact .inl rfl | exact .inr rfl)
 (hsw:swapsWith (.ListComp elt [⟨tg,iter,ifs,0⟩] scope pos) (some (.Name y py)) spos.line X.env=pure true:=by rfl) (hf:X.fn y=true∨X.env.scope.names.lookup y=some .local:=by first | exact .inl rfl | exact .inr rfl | assumption)
 (hs:∀ x,foldedSetIterable iter X.env x=pure x:=by intro _;rfl):DS X (.Assign [.Name y py] (.ListComp elt [⟨tg,iter,ifs,0⟩] scope pos) spos) (sset i (bI fi g c fe n ix)):=ds_comp hc (i8 rfl rfl S) hk hi (hin nd) hN hiy hy hsw hf hs
theorem gn (hN:X.N.Nodup) (hi:X.N[i]?=some x:=by rfl) (hx:Loc X.env.scope x:=by first | exact .inl rfl | exact .inr rfl) (hf:X.fn x=true∨X.env.scope.names.lookup x=some .local:=by first | exact .inl rfl | exact .inr rfl | assumption):DG X (.Name x pos) [i] (ar i):=dg_name (pg_name hN hi hx hf)
theorem g2 {k:Nat} {js:List Nat} {g':GD} (h1:DG X a ks g) (h2:DG X b js g') (hc:X.calm=true:=by rfl) (e1:(assignEach [a,b] X.env).map (·.2)=assign a X.env::(assignEach [b] X.env).map (·.2):=by rfl) (e2:(assignEach [b] X.env).map (·.2)=assign b X.env::(assignEach [] X.env).map (·.2):=by rfl)
 (hn:(assignEach [a,b] X.env).length=2:=by rfl) (hst:(assignEach [a,b] X.env).findIdx? (·.1)=none:=by rfl):DG X (.Tuple [a,b] k pos) (ks++(js++[])) (gtup 2 (eN g (eN g' gnil))):=dg_tup hc (mC h1 (mC h2 dgs_nil e2) e1) hn hst
theorem sf (hi:DI X tg iter fi) (hg:DG X tg ks g) (hb:DSs X body F) (hc:X.calm=true:=by rfl) (hp:PassesOwn (model X.prog X.w) X.A X.env X.xe:=by exact PassesOwn.never) (hs:∀ x,foldedSetIterable iter X.env x=pure x:=by intro _;rfl):DS X (.For tg iter body [] pos) (bW fi g F):=ds_for hp hc hi hg hb hs
theorem sw {t:DSt→Option Bool} (ht:DT X a t) (hb:DSs X body F) (hp:PassesOwn (model X.prog X.w) X.A X.env X.xe:=by exact PassesOwn.never):DS X (.While a body [] pos) (cG t F n):=ds_while n hp ht hb
theorem ir (hm:X.mg "range" = none) (ha:DE X a fa) (hg:Gl X "range":=by rfl) (hs:starEach [a] X.env=[(false,eval a X.env)]:=by exact bx rfl):DI X tg (.Call (.Name "range" p) [a] [] pos) (f8 (ab fa ah)):=di_range1 hg hm (d1 ha hs) hs
end
theorem sA (hN:X.N.Nodup) (he:DE X e f) (hi:X.N[i]?=some x:=by rfl) (hx:Loc X.env.scope x:=by first | exact .inl rfl | exact .inr rfl) (hs:swapsWith e (some (.Name x pos')) pos.line X.env=pure false:=by rfl)
 (hf:X.fn x=true∨X.env.scope.names.lookup x=some .local:=by first | exact .inl rfl | exact .inr rfl | assumption):DS X (.Assign [.Name x pos'] e pos) (sset i f):=ds_set hN hi hx he hs hf
theorem stB (hN:X.N.Nodup) (he:DE X e f) (hi:X.N[k]?=some x:=by rfl) (hx:Loc X.env.scope x:=by first | exact .inl rfl | exact .inr rfl) (hs:swapsWith e (some (.Name x pos')) pos.line X.env=pure false:=by rfl)
 (hf:X.fn x=true∨X.env.scope.names.lookup x=some .local:=by first | exact .inl rfl | exact .inr rfl | assumption):DS X (.Assign [.Name x pos'] e pos) (iL i k f):=ds_setB hN hi hx he hs hf
theorem stN (hN:X.N.Nodup) (he:DN X e g) (hi:X.N[i]?=some x:=by rfl) (hx:Loc X.env.scope x:=by first | exact .inl rfl | exact .inr rfl) (hs:swapsWith e (some (.Name x pos')) pos.line X.env=pure false:=by rfl)
 (hf:X.fn x=true∨X.env.scope.names.lookup x=some .local:=by first | exact .inl rfl | exact .inr rfl | assumption):DS X (.Assign [.Name x pos'] e pos) (gX i g):=ds_setN hN hi hx he hs hf
theorem sg {op:Operator} {g:Int→Int→Int} (hN:X.N.Nodup) (he:DE X e f) (ho:PIp X op (ipI g)) (hi:X.N[i]?=some x:=by rfl) (hx:Loc X.env.scope x:=by first | exact .inl rfl | exact .inr rfl)
 (hf:X.fn x=true∨X.env.scope.names.lookup x=some .local:=by first | exact .inl rfl | exact .inr rfl | assumption):DS X (.AugAssign (.Name x pos') op e pos) (jM g i f):=ds_aug hN hi hx he ho hf
theorem i0 {t:DSt→Option Bool} (hc:DT X c t) (ha:DSs X body F):DS X (.If c body [] pos) (sif t F aE):=ds_if hc ha dss_nil
theorem iB0 {t:DSt→Option Bool} (hc:DT X c t) (ha:DSs X body F):DS X (.If c body [] pos) (fx i t F aE):=ds_ifB hc ha dss_nil
end
end Ew
end
section
set_option Elab.async false
set_option linter.all false
set_option maxRecDepth 100000
namespace PySem
section
variable {prog:Program} {w:World} {A:Around} {E:Value→Shared→Prop} {s:Shared} {l:Addr} {xs:Array (Int×Tok)}
theorem mQ {Q:Value→Shared→Prop} (hh:A.handled=none) (hl:s.heap.IsTuple l (intItems xs))
  (h:∀ h' tk t',(∀ b o,s.heap.get? b=some o→h'.get? b=some o)→Q (.int (preSum (numAt xs) xs.size) t') { s with heap:=h',toks:=tk }) :
  wpAny (model prog w) A (call (.builtin "sum") [.ref l]) Q E s:=by
 have hlt:l<s.heap.objs.size:=by obtain ⟨_,e,_⟩:=hl;exact Heap.lt_size e
 refine call_sum_walkG (wpAny_pyIter_tuple hl ?_)
 refine ⟨_,[_,l],[_],_,_,_,numAt xs,rfl,Walks.tuple (A:=A.in1) hh _ l (Nat.ne_of_lt hlt) (intItems xs),⟨⟨_,Heap.get?_push_size _ rfl,rfl,rfl⟩,hl.push _⟩,fun c hc=>?_,(fun _ _=>intItems_at),fun h' tk t' hk=>?_⟩
 ·
  show c<(s.heap.push _).objs.size
  rw [Heap.size_push]
  rcases List.mem_cons.mp hc with rfl | hc
  ·
   exact Nat.lt_succ_self _
  ·
   rcases List.mem_cons.mp hc with rfl | hc
   ·
    exact Nat.lt_succ_of_lt hlt
   ·
    cases hc
 ·
  have:=h h' tk t' (fun b o e=>hk b o (fun hm=>by
   rcases List.mem_cons.mp hm with e1 | hm
   ·
    exact absurd (e1▸Heap.lt_size e) (Nat.lt_irrefl _)
   ·
    cases hm) (Heap.get?_push_of_some _ e))
  simpa [intItems] using this
theorem nU:typeLookup (Value.type "list_reverseiterator") (Str.ofString "__len__")=pure none:=by with_unfolding_all rfl
theorem lri_hint:typeLookup (Value.type "list_reverseiterator") (Str.ofString "__length_hint__")=pure (some (.builtin "list_reverseiterator.__length_hint__")):=by with_unfolding_all rfl
end
end PySem
namespace PySem
section
variable {prog:Program} {w:World} {A:Around} {E:Value→Shared→Prop} {s:Shared}
theorem hint_rev {it l:Addr} {i:Int} {Q:Bool→Shared→Prop} (hit:s.heap.IsRevIter it l i) (h:Q false s):wpAny (model prog w) A (Builtin.List.listLengthHint (.ref it)) Q E s:=by
 unfold Builtin.List.listLengthHint
 refine wpAny_bind (wpAny_specialOf hit.typeIs nU ?_)
 refine wpAny_ite_false rfl ?_
 refine wpAny_ite_false rfl ?_
 refine wpAny_bind (wpAny_specialOf hit.typeIs lri_hint ?_)
 generalize hid:("list_reverseiterator.__length_hint__" : String)=id0
 wp_delta
 rw [show splitId id0=some ("list_reverseiterator", "__length_hint__") from by subst hid;decide +kernel]
 subst hid
 refine wpAny_bind (wpAny_isInstance (T:="list_reverseiterator") (b:=true) hit.typeIs (by rw [isSubtype_type];kernel_rfl) ?_)
 refine wpAny_ite_split (fun hab=>absurd hab (by decide)) (fun _=>?_)
 refine wpAny_ite_split (fun _=>?_) (fun hab=>absurd (by decide +kernel) hab)
 refine wpAny_ite_split (fun hab=>absurd hab (by decide +kernel)) (fun _=>?_)
 exact wpAny_pure h
end
end PySem
namespace PySem
section
variable {prog:Program} {w:World} {A:Around} {E:Value→Shared→Prop} {s:Shared}
theorem kM {Q:Value→Shared→Prop} {it l:Addr} {items:Array Value} (hh:A.handled=none) (hit:s.heap.IsRevIter it l ((items.size:Int)-1)) (hl:s.heap.IsList l items) (hne:l≠it) (hsz:items.size≤sizeLine)
  (hQ:∀ h' tk acc' c',(∀ b o,b≠it→s.heap.get? b=some o→h'.get? b=some o)→h'.get? s.heap.objs.size=some { cls:=.type "list",dict:=none,data:=.seq acc' c',slots:=#[] }→
   ItemsOf (fun i v=>items[items.size-1-i]?=some v) acc' items.size→Q (.ref s.heap.objs.size) { s with heap:=h',toks:=tk }) :
  wpAny (model prog w) A (call (.type "list") [.ref it]) Q E s:=by
 have hlt:l<s.heap.objs.size:=by obtain ⟨_,e,_⟩:=hl;exact Heap.lt_size e
 have hit':it<s.heap.objs.size:=by obtain ⟨_,e,_⟩:=hit;exact Heap.lt_size e
 refine callType_codes (Q₁:=fun obj s₁=>obj=.ref s.heap.objs.size∧s₁={ s with heap:=s.heap.push { cls:=.type "list",data:=.seq #[] } }) F.called_list (F.typeCall_list_1 _) F.entry_list_init
  (code_list_new _ ⟨rfl,rfl⟩) fun obj s₁ h₁=>?_
 obtain ⟨rfl,rfl⟩:=h₁
 have hS:(s.heap.push { cls:=.type "list",data:=.seq #[] }).get? s.heap.objs.size=some { cls:=.type "list",data:=.seq #[] }:=Heap.get?_push_size _ rfl
 refine ⟨⟨_,hS,rfl⟩,F.args_list_init_2 _ _,?_⟩
 unfold Builtin.«list.__init__»
 refine wpAny_ite_false rfl ?_
 refine wpAny_ite_false rfl ?_
 refine wpAny_bind (wpAny_bind (wpAny_seqItems hS rfl (wpAny_pure ?_)))
 refine wpAny_bind (PyProof.Rows.listUpdate_at hS rfl ?_ (by simp) (by simp))
 refine wpAny_bind (wpAny_letGo ?_)
 unfold Builtin.List.listExtendWith
 generalize hg:(s.heap.push { cls:=.type "list",data:=.seq #[] }).update s.heap.objs.size (Obj.mapSeq fun _=>#[])=g
 have k1:∀ (b:Nat) (o:Obj),s.heap.get? b=some o→g.get? b=some o:=fun b o e=>by
  have:b<s.heap.objs.size:=Heap.lt_size e
  rw [←hg,Heap.get?_update_other _ _ (Ne.symm (Nat.ne_of_lt this))];exact Heap.get?_push_of_some _ e
 obtain ⟨c1,hS1⟩ : ∃ c1,g.get? s.heap.objs.size=some { cls:=.type "list",dict:=none,data:=.seq #[] c1,slots:=#[] }:=⟨_,by rw [←hg];exact Heap.get?_update_self _ hS rfl⟩
 have it1:g.IsRevIter it l ((items.size:Int)-1):=hit.at fun o e=>k1 _ _ e
 have l1:g.IsList l items:=hl.at fun o e=>k1 _ _ e
 refine wpAny_bind (wpAny_typeOf (T:="list_reverseiterator") (Heap.IsRevIter.typeIs (s:={ s with heap:=g }) it1) ?_)
 refine wpAny_ite_false (by
  have:s.heap.objs.size≠it:=Ne.symm (Nat.ne_of_lt hit')
  simp [Builtin.List.listSameRef,this]) ?_
 refine wpAny_bind (wpAny_pyIter_revIter (s:={ s with heap:=g }) it1 ?_)
 refine wpAny_bind (wpAny_holding (hint_rev (s:={ s with heap:=g }) it1 ?_))
 refine wpAny_ite_false rfl ?_
 refine wpAny_pure ⟨plainId_quiet F.plain_extend_loop _,?_⟩
 have W:=(Walks.listRev (prog:=prog) (w:=w) (A:=A.in1.in1) hh it l hne items).toS
 refine codeAny_extend_loopS W hsz s.heap.objs.size (by simp;exact ⟨Ne.symm (Nat.ne_of_lt hit'),Ne.symm (Nat.ne_of_lt hlt)⟩) .none items.size 0 { s with heap:=g } #[] c1 rfl (Nat.zero_le _) ⟨Nat.zero_le _,by simpa using it1,l1⟩ hS1 (ItemsOf.nil _) fun s' acc' c' hm hS' hacc=>?_
 rw [Moved.eq_with hm]
 refine ⟨rfl,hQ s'.heap s'.toks acc' c' (fun b o hb e=>hm.heap b o (fun hmem=>?_) (k1 b o e)) hS' hacc⟩
 rcases List.mem_cons.mp hmem with e' | hmem
 ·
  exact absurd (Heap.lt_size e) (by rw [e'];exact Nat.lt_irrefl _)
 ·
  exact hb (List.mem_singleton.mp hmem)
end
end PySem
namespace L2
open PySem PySem.Spec
def tLR (K:PySem.W.Frag) (te:TA):TE:=fun σ H Q=>te σ H fun vs H1=>∃ a xs,vs=[.ref a]∧SqL K H1 a xs∧∀ l,H1 l=none→Q (.ref l) (upd H1 l (.lst xs.reverse))
section
variable {X:Cx} {e:Expr} {te:TA} {p1 p2 pos1 pos2:Pos}
theorem jz:∀ {xs:List V} {us:List Value},xs.length=us.length→(∀ (j:Nat) x u,xs[j]?=some x→us[j]?=some u→RelV x u)→aK xs us
 | [],[],_,_=>.nil
 | [],_::_,h,_=>by cases h
 | _::_,[],h,_=>by cases h
 | x::xs,u::us,h,k=>.cons (k 0 x u rfl rfl) (jz (by simpa using h) fun j x u h1 h2=>k (j+1) x u h1 h2)
theorem nV (hc:X.calm=true) (he:PA X [e] te) (hg:Gl X "list") (hm:X.mg "list" = none) (hg2:Gl X "reversed") (hm2:X.mg "reversed" = none)
  (hs:starEach [e] X.env=[(false,eval e X.env)]:=by rfl)
  (hs2:starEach [.Call (.Name "reversed" p2) [e] [] pos2] X.env=[(false,eval (.Call (.Name "reversed" p2) [e] [] pos2) X.env)]:=by rfl) :
  PE X (.Call (.Name "list" p1) [.Call (.Name "reversed" p2) [e] [] pos2] [] pos1) (tLR X.K te):=by
 intro pins s σ H Q I h
 refine wpAny_Call_Name_kw (gp I hg hm PyProof.Rows.boot_list ?_ (by decide) (by decide))
 refine PyProof.Rows.callWith_type1 (rest:=[]) ?_ hs2 rfl
 rw [hs2]
 refine Calls.spliced_cons (rest:=[]) ?_
 refine wpAny_Call_Name_kw (gp I hg2 hm2 PyProof.Rows.boot_reversed ?_ (by decide) (by decide))
 refine PyProof.Rows.callWith_type1 (thn (he pos2 pins s σ H _ I h) fun us s1 ⟨vs,H1,I1,r1,q1⟩=>?_) hs rfl
 obtain ⟨a,xs,rfl,hx,q⟩:=q1
 obtain ⟨u,rfl,ru⟩:=r1.one
 cases (show u=Value.ref a from ru)
 obtain ⟨its,v1,p1,z1⟩:=I1.list hx
 have hl:=v1.length
 have la:a<s1.heap.objs.size:=by obtain ⟨o,n,e,_⟩:=p1;exact Heap.lt_size e
 refine thn (call_reversed_list p1.isList (E:=X.xe) (Q:=fun z s2=>wpAny (model X.prog X.w) X.A (call (.type "list") [z]) (EP X pins σ Q) X.xe s2) ?_) fun v s2 hv=>Calls.spliced_nil hv
 have e0:(s1.heap.push (revObj a ((its.toArray.size:Int)-1))).get? s1.heap.objs.size=some (revObj a ((its.toArray.size:Int)-1)):=Heap.get?_push_size _ rfl
 refine kM (items:=its.toArray) (l:=a) (I1.ok.hd hc) ⟨_,e0,rfl,rfl⟩ (p1.isList.at fun o e=>Heap.get?_push_of_some _ e) (Nat.ne_of_lt la) (by simp;omega) ?_
 intro h' tk acc' c' k ho hacc
 have kk:∀ b u,s1.heap.get? b=some u→h'.get? b=some u:=fun b u e=>k b u (Nat.ne_of_lt (Heap.lt_size e)) (Heap.get?_push_of_some _ e)
 have hz:(s1.heap.push (revObj a ((its.toArray.size:Int)-1))).objs.size=s1.heap.objs.size+1:=Heap.size_push ..
 rw [hz] at ho ⊢
 have hv:aK xs.reverse acc'.toList:=by
  refine jz ?_ fun j x u e1 e2=>?_
  ·
   have:=hacc.1
   simp at this ⊢
   omega
  ·
   have h2:=hacc.2 j u (by simpa using e2)
   have hj:j<xs.length:=by
    have:=(List.getElem?_eq_some_iff.mp e1).1
    simpa using this
   rw [List.getElem?_reverse hj] at e1
   obtain ⟨u',hu,ru⟩:=v1.get e1
   have h3:its[its.length-1-j]?=some u:=by simpa using h2
   rw [←hl] at h3
   rw [h3] at hu
   cases hu
   exact ru
 refine ⟨.ref (s1.heap.objs.size+1),_,I1.laid (t':=tk) (o:=.lst xs.reverse) kk (Nat.le_succ _) ⟨by rw [List.length_reverse];exact z1,acc'.toList,c',hv,by simpa using ho⟩,rfl,q _ (I1.hok.fresh (Nat.le_succ _))⟩
end
end L2
namespace Ew
open PySem PySem.Spec L2
section
variable {X:Cx} {e o:Expr} {fo fe f:FE} {p p1 p2 pos1 pos2 apos cpos:Pos} {st:Stmt} {F G:FS}
def lc (f:FE):FE:=fun δ=>(f δ).bind fun r=>match r.view with
 | .lst ds=>if ds.length≤1000 then some (.fr ds.reverse) else none
 | _=>none
theorem d_lrev (he:DE X e f) (hm:X.mg "list" = none) (hm2:X.mg "reversed" = none) (hc:X.calm=true:=by rfl) (hg:Gl X "list":=by rfl) (hg2:Gl X "reversed":=by rfl)
  (hs:starEach [e] X.env=[(false,eval e X.env)]:=by exact bx rfl)
  (hs2:starEach [.Call (.Name "reversed" p2) [e] [] pos2] X.env=[(false,eval (.Call (.Name "reversed" p2) [e] [] pos2) X.env)]:=by rfl) :
  DE X (.Call (.Name "list" p1) [.Call (.Name "reversed" p2) [e] [] pos2] [] pos1) (lc f):=.mk <| (nV hc (bZ he.go dY hs) hg hm hg2 hm2 hs hs2).weak fun σ H Q ⟨Hs,δ,r,S,En,e,K⟩=>by
 unfold lc at e
 cases ef:f δ with
 | none=>rw [ef] at e;cases e
 | some rf=>
  rw [ef] at e
  refine ⟨Hs,δ,rf,S,En,ef,fun x Hs1 H1 W1 R1=>?_⟩
  have vw:=R1.view
  replace e:(match rf.view with
   | .lst ds=>if ds.length≤1000 then some (R.fr ds.reverse) else none
   | _=>none)=some r:=e
  cases hv:rf.view with
  | lst ds=>
   rw [hv] at e vw
   replace e:(if ds.length≤1000 then some (R.fr ds.reverse) else none)=some r:=e
   by_cases hz:ds.length≤1000
   ·
    rw [if_pos hz] at e
    cases e
    obtain ⟨a,vs,rfl,h1,h2⟩:=vw.sq (K:=X.K) W1.sub
    exact ⟨a,vs,rfl,h1,fun l hl=>K _ Hs1 _ (W1.trans (.fresh W1.sub hl)) ⟨l,_,rfl,W1.keep.free hl,W1.sub.free hl,ax,h2.reverse⟩⟩
   ·
    rw [if_neg hz] at e;cases e
  | _=>rw [hv] at e;cases e
def dB:D→D→Option R
 | .lst ds,.int k=>(nums ds).bind fun ns=>if k∈ns∧ns.length≤1000 then some (.sh (.int (ns.idxOf k:Nat))) else none
 | _,_=>none
theorem nW {prog:Program} {w:World} {A:Around} {E:Value→Shared→Prop} {s:Shared} {l:Addr} {vs:List Value} {ns:List Int} {k:Int} {t:Tok} {Q:Value→Shared→Prop} (hl:s.heap.IsList l vs.toArray) (hi:PyProof.Rows.IntsAre vs ns)
  (hb:ns.length≤1000) (hk:k∈ns) (h:Q (.int (ns.idxOf k:Nat) s.toks) { s with toks:=s.toks+1 }):wpAny (model prog w) A (call (.builtin "list.index") [.ref l,.int k t]) Q E s:=by
 obtain ⟨o,ho,hc,n,hd⟩:=id hl
 obtain ⟨cl,dd,da,sl⟩:=o
 simp only at hc hd
 subst hc
 subst hd
 have len:=hi.length
 have lt:ns.idxOf k<ns.length:=List.idxOf_lt_length_iff.mpr hk
 have m:=PySem.SeqAt.list_indexAt l vs.toArray n dd sl (.int k t) (PyProof.Rows.isInt k) (ns.idxOf k) (by rw [List.size_toArray];omega) (by omega) (by
  show PyProof.Rows.isInt k vs[ns.idxOf k]=true
  rw [PyProof.Rows.isInt_at k hi _ (by omega) lt]
  simpa using List.getElem_idxOf lt) (fun j hj hlt=>by
  show PyProof.Rows.isInt k vs[j]=false
  rw [PyProof.Rows.isInt_at k hi j (by simpa using hj) (by omega)]
  exact PyProof.Rows.ne_of_lt_idxOf hlt _)
 exact call_meets PySem.F.slot_list_index ⟨_,ho,rfl⟩ PySem.F.entry_list_index (PySem.F.args_list_index_2 _ _) m ⟨ho,fun y hy=>(PyProof.Rows.eq_isInt k t hi y (by simpa using hy)).at _ _,h⟩
def rIndex:V→List V→Hp→VK→Prop:=fun x vs H Q=>∃ y,vs=[y]∧rD dB x y H Q
theorem mt_index:MtR X "list.index" rIndex:=by
 intro pins s σ H x vs v us Q I rx rv h
 obtain ⟨y,rfl,Hs,d1,d2,r,S,v1,v2,e,K⟩:=h
 match d1,d2,e,v1,v2 with
 | .lst ds,.int k,e,v1,v2=>
  replace e:((nums ds).bind fun ns=>if k∈ns∧ns.length≤1000 then some (R.sh (.int (ns.idxOf k:Nat))) else none)=some r:=e
  cases eb:nums ds with
  | none=>rw [eb] at e;cases e
  | some ns=>
   rw [eb] at e
   replace e:(if k∈ns∧ns.length≤1000 then some (R.sh (.int (ns.idxOf k:Nat))) else none)=some r:=e
   by_cases hz:k∈ns∧ns.length≤1000
   ·
    rw [if_pos hz] at e
    cases e
    obtain ⟨a,vs,its,e1,rfl,h1,h2,rw',pl,hz'⟩:=jX I S v1 (.cons rx .nil)
    cases e1
    obtain ⟨u,rfl,ru⟩:=rv.one
    have hy:=v2.int
    subst hy
    obtain ⟨t,rfl⟩:=ru
    have hi:=fu eb h2 rw'
    refine nW pl.isList hi hz.2 hz.1 ?_
    exact ⟨.int (ns.idxOf k:Nat),H,I.tok _,⟨_,rfl⟩,K _ Hs H (.refl S) (shI _ _ _ _)⟩
   ·
    rw [if_neg hz] at e;cases e
theorem j3 (ho:DE X o fo) (he:DE X e fe) (hbase:attributeBase o "index" X.env (eval o X.env)=eval o X.env:=by rfl)
  (hfew:((backTo cpos (starEach [e] X.env)).all (fun x=>!x.1)&&(backToKw cpos (keywordEach [] X.env)).all (fun x=>x.1.isSome)
   &&decide ([e].length+([]:List Keyword).length+(if ([]:List Keyword).isEmpty then 0 else 1)<30))=true:=by rfl)
  (hline:(apos.endLine==cpos.line)=true:=by rfl) (hs:starEach [e] X.env=(false,eval e X.env)::starEach [] X.env:=by exact bx rfl) :
  DE X (.Call (.Attribute o "index" apos) [e] [] cpos) (ad dB fo fe):=.mk <|
 (pe_bm PySem.F.plainAttrs_list PySem.F.slot_list_index PySem.F.type_list_index mt_index ho.go (bZ he.go dY hs) hbase hfew hline hs).weak fun σ H Q h=>by
  obtain ⟨Hs,δ,r,S,En,e,K⟩:=h
  have e':=e
  unfold ad at e
  cases ea:fo δ with
  | none=>rw [ea] at e;cases e
  | some ra=>
   rw [ea] at e
   cases eb:fe δ with
   | none=>rw [eb] at e;cases e
   | some rb=>
    rw [eb] at e
    replace e:dB ra.view rb.view=some r:=e
    refine ⟨Hs,δ,ra,S,En,ea,fun x Hs1 H1 W1 R1=>⟨?_,Hs1,δ,rb,W1.sub,En.mono W1,eb,fun y Hs2 H2 W2 R2=>?_⟩⟩
    ·
     have vw:=R1.view
     cases hv:ra.view with
     | lst ds=>
      rw [hv] at vw
      obtain ⟨a,vs,rfl,h1,h2⟩:=vw.sq (K:=X.K) W1.sub
      exact .inl ⟨rfl,_,h1⟩
     | _=>rw [hv] at e;cases e
    ·
     exact ⟨y,rfl,Hs2,_,_,r,W2.sub,(R1.mono W2).view,R2.view,e,fun v Hs' H' W' R'=>K v Hs' H' (W1.trans (W2.trans W')) (R'.older ((W1.trans W2).keep))⟩
def iM:D→Option R
 | .tup ds=>(nums ds).map fun ns=>.sh (.int ns.sum)
 | _=>none
theorem un_tup {pins:List (Addr×Obj)} {σ:St} {H Hs:Hp} {s:Shared} (I:L2.Inv X pins σ H s) (S:aH Hs H) {ds:List D} {x:V} {us:List Value} (vd:View Hs H (.tup ds) x) (rv:aK [x] us) :
  ∃ a vs its,us=[.ref a]∧x=.ref a∧ay Hs ds vs∧aK vs its∧s.heap.IsTuple a its.toArray:=by
 obtain ⟨a,vs,eq,h1,h2⟩:=vd.tup S
 subst eq
 obtain ⟨u,rfl,ru⟩:=rv.one
 cases (show u=Value.ref a from ru)
 obtain ⟨its,rw',ht⟩:=I.tuple (SqT.of (K:=X.K) h1)
 exact ⟨a,vs,its,rfl,rfl,h2,rw',ht.1⟩
theorem c_sumT (hc:X.calm=true):ca X (.builtin "sum") (rC1 iM):=by
 intro pins s σ H xs us Q I rv h
 obtain ⟨x,rfl,Hs,d,r,S,vd,e,K⟩:=h
 match d,e,vd with
 | .tup ds,e,vd=>
  cases eb:nums ds with
  | none=>simp only [iM,eb] at e;cases e
  | some ns=>
   simp only [iM,eb] at e;cases e
   obtain ⟨a,vs,its,rfl,rfl,h2,rw',pl⟩:=un_tup I S vd rv
   have hi:=fu eb h2 rw'
   obtain ⟨ys,hx⟩:=hi.allInts.items
   refine mQ (xs:=ys) (I.ok.hd hc) (hx▸pl) fun h' tk t' hk=>?_
   have e1:ns=ys.toList.map (·.1):=by rw [←nums_intItems,←hx];exact (show numsOf its.toArray.toList=ns from hi.numsOf).symm
   have e2:preSum (numAt ys) ys.size=ns.sum:=by rw [preSum_eq,List.take_of_length_le (by simp),e1]
   rw [e2]
   exact ⟨.int _,H,I.kept hk,⟨_,rfl⟩,K _ Hs H (.refl S) (shI _ _ _ _)⟩
def salt (F G:FS):FS:=fun δ=>match F δ with
 | some r=>some r
 | none=>G δ
theorem ds_alt (hF:DS X st F) (hG:DS X st G):DS X st (salt F G):=.mk fun H0 Hs0 pins s σ H D I ⟨Hs,δ,res,W,S,e,P⟩=>by
 unfold salt at e
 cases ef:F δ with
 | some r=>rw [ef] at e;cases e;exact hF.go H0 Hs0 pins s σ H D I ⟨Hs,δ,_,W,S,ef,P⟩
 | none=>rw [ef] at e;exact hG.go H0 Hs0 pins s σ H D I ⟨Hs,δ,_,W,S,e,P⟩
theorem ok_none {K:PySem.W.Frag} {mg:Str→Option Value} {P:Program} {w:World} {base:Heap} {x q:Str} {st:Stmt} {ps:List Str} {F0:Fb K x q st ps} {n:Nat}:Ok P w mg base 0 F0 (spD n fun _=>none):=
 ⟨fun vs H Q E ⟨Hs,ds,d,h1,h2,h3,h4,_⟩=>(by cases h4),fun A o s H args us vs Q E _ _ _ _ ⟨Hs,ds,d,h1,h2,h3,h4,_⟩=>(by cases h4)⟩
end
end Ew
end
section
set_option linter.all false
namespace Mx
section
variable {P N:Type} [DecidableEq P] [DecidableEq N]
abbrev Wlk (P N:Type):=List P×List N
def bb (w:Wlk P N):List (P×P×N):=w.1.zip (w.1.tail.zip w.2)
theorem kN (qs:List P) (ns:List N) (b c:P) (n:N) (h:qs.length=ns.length) :
  bb (qs++[b]++[c],ns++[n])=bb (qs++[b],ns)++[(b,c,n)]:=by
 induction qs generalizing ns with
 | nil=>cases ns with
  | nil=>rfl
  | cons m ns=>simp at h
 | cons q qs ih=>cases ns with
  | nil=>simp at h
  | cons m ns=>
   have:=ih ns (by simpa using h)
   cases qs with
   | nil=>cases ns with
    | nil=>rfl
    | cons _ _=>simp at h
   | cons q' qs=>simp [bb] at this ⊢;exact this
theorem lR {ps:List P} {ns:List N} {b c:P} {n:N} (hl:ps.getLast?=some b) (h:ps.length=ns.length+1) :
  bb (ps++[c],ns++[n])=bb (ps,ns)++[(b,c,n)]:=by
 obtain ⟨qs,rfl⟩ : ∃ qs,ps=qs++[b]:=by
  rw [List.getLast?_eq_some_iff] at hl;exact hl
 exact kN qs ns b c n (by simpa using h)
inductive Sw (L:List (P×P×N)) (ends:List P) (a:P):P→List P→List N→Prop
 | nil:Sw L ends a a [a] []
 | snoc {b ps ns c n}:Sw L ends a b ps ns→(b,c,n)∈L→c∉ps→b∉ends→Sw L ends a c (ps++[c]) (ns++[n])
namespace Sw
variable {L:List (P×P×N)} {ends:List P} {a b:P} {ps:List P} {ns:List N}
theorem last (h:Sw L ends a b ps ns):ps.getLast?=some b:=by cases h <;> simp
theorem head (h:Sw L ends a b ps ns):ps.head?=some a:=by
 induction h with
 | nil=>rfl
 | snoc h1 _ _ _ ih=>rw [List.head?_append,ih];rfl
theorem len (h:Sw L ends a b ps ns):ps.length=ns.length+1:=by
 induction h with
 | nil=>rfl
 | snoc h1 _ _ _ ih=>simp [ih]
theorem nodup (h:Sw L ends a b ps ns):ps.Nodup:=by
 induction h with
 | nil=>simp
 | snoc h1 _ hc _ ih=>
  rw [List.nodup_append]
  refine ⟨ih,by simp,?_⟩
  intro x hx y hy
  simp at hy
  subst hy
  intro e
  subst e
  exact hc hx
theorem memA (h:Sw L ends a b ps ns):a∈ps:=by
 induction h with
 | nil=>simp
 | snoc h1 _ hc _ ih=>simp [ih]
theorem memB (h:Sw L ends a b ps ns):b∈ps:=by
 cases h <;> simp
theorem inner (h:Sw L ends a b ps ns):∀ p∈ps,p=b∨p∉ends:=by
 induction h with
 | nil=>simp
 | snoc h1 _ hc hb ih=>
  intro p hp
  simp at hp
  rcases hp with hp | hp
  ·
   rcases ih p hp with e | e
   ·
    subst e;exact .inr hb
   ·
    exact .inr e
  ·
   exact .inl hp
theorem steps_snoc {c n} (h:Sw L ends a b ps ns):bb (ps++[c],ns++[n])=bb (ps,ns)++[(b,c,n)]:=lR h.last h.len
theorem step (h:Sw L ends a b ps ns):∀ s∈bb (ps,ns),s∈L∧s.1∈ps∧s.2.1∈ps∧s.2.2∈ns∧s.2.1≠a∧s.1∉ends:=by
 induction h with
 | nil=>intro s hs;simp [bb] at hs
 | snoc h1 hL hc hb ih=>
  intro s hs
  rw [h1.steps_snoc] at hs
  simp at hs
  rcases hs with hs | hs
  ·
   obtain ⟨i1,i2,i3,i4,i5,i6⟩:=ih s hs
   exact ⟨i1,by simp [i2],by simp [i3],by simp [i4],i5,i6⟩
  ·
   subst hs
   refine ⟨hL,by simp [h1.memB],by simp,by simp,?_,hb⟩
   intro e
   simp at e
   subst e
   exact hc h1.memA
theorem names (h:Sw L ends a b ps ns):(bb (ps,ns)).map (·.2.2)=ns:=by
 induction h with
 | nil=>rfl
 | snoc h1 hL hc hb ih=>rw [h1.steps_snoc];simp [ih]
theorem stepsNodup (h:Sw L ends a b ps ns):(bb (ps,ns)).Nodup:=by
 induction h with
 | nil=>simp [bb]
 | snoc h1 hL hc hb ih=>
  rw [h1.steps_snoc,List.nodup_append]
  refine ⟨ih,by simp,?_⟩
  intro x hx y hy e
  simp at hy
  subst hy
  subst e
  exact hc (h1.step _ hx).2.2.1
theorem namesNodup (h:Sw L ends a b ps ns) (U:∀ s∈L,∀ t∈L,s.2.2=t.2.2→t=s∨t=(s.2.1,s.1,s.2.2)):ns.Nodup:=by
 induction h with
 | nil=>simp
 | snoc h1 hL hc hb ih=>
  rw [List.nodup_append]
  refine ⟨ih,by simp,?_⟩
  intro x hx y hy e
  simp at hy
  subst hy
  subst e
  rw [←h1.names] at hx
  simp only [List.mem_map] at hx
  obtain ⟨s,hs,e⟩:=hx
  have q:=h1.step s hs
  rcases U s q.1 _ hL e with e' | e'
  ·
   rw [←e'] at q;exact hc q.2.2.1
  ·
   have:s.1=_:=(congrArg (fun (x:P×P×N)=>x.2.1) e').symm
   simp at this
   rw [this] at q
   exact hc q.2.1
end Sw
def scan1 (w:Wlk P N) (q:List (Wlk P N)×List P) (s:P×P×N):List (Wlk P N)×List P:=
 if w.1.getLast?=some s.1∧s.2.1∉q.2 then (q.1++[(w.1++[s.2.1],w.2++[s.2.2])],q.2++[s.2.1]) else q
def scan (L:List (P×P×N)) (w:Wlk P N) (q:List (Wlk P N)×List P):=L.foldl (scan1 w) q
def h7 (ends:List P) (w:Wlk P N):Bool:=match w.1.getLast? with
 | some b=>decide (b∈ends)
 | none=>false
def bfs (L:List (P×P×N)) (ends:List P):Nat→Nat→List (Wlk P N)×List P→Option (Wlk P N)
 | 0,_,_=>none
 | f+1,k,q=>match q.1[k]? with
  | none=>none
  | some w=>if h7 ends w then some w else bfs L ends f (k+1) (scan L w q)
def ey (n:Nat) (L:List (P×P×N)) (a:P) (ends:List P):Option (Wlk P N):=bfs L ends n 0 ([([a],[])],[a])
structure Inv (L L0:List (P×P×N)) (ends:List P) (a:P) (q:List (Wlk P N)×List P):Prop where
 nd:q.2.Nodup
 ls:q.1.map (fun w=>w.1.getLast?)=q.2.map some
 ok:∀ w∈q.1,∃ b,Sw L0 ends a b w.1 w.2∧∀ p∈w.1,p∈q.2
 sub:∀ p∈q.2,p=a∨∃ s∈L0,s.2.1=p
 ha:a∈q.2
theorem scan1_inv {L L0:List (P×P×N)} {ends:List P} {a b:P} {q:List (Wlk P N)×List P} {w:Wlk P N} {s:P×P×N}
  (I:Inv L L0 ends a q) (hw:Sw L0 ends a b w.1 w.2) (hm:∀ p∈w.1,p∈q.2) (hb:b∉ends) (hs:s∈L0) :
  Inv L L0 ends a (scan1 w q s)∧(∃ e,(scan1 w q s).1=q.1++e)∧(∃ e,(scan1 w q s).2=q.2++e)∧(s.1=b→s.2.1∈(scan1 w q s).2):=by
 unfold scan1
 rw [hw.last]
 split
 ·
  rename_i h
  obtain ⟨h1,h2⟩:=h
  simp at h1
  subst h1
  refine ⟨⟨?_,?_,?_,?_,?_⟩,⟨_,rfl⟩,⟨_,rfl⟩,by simp⟩
  ·
   rw [List.nodup_append]
   refine ⟨I.nd,by simp,?_⟩
   intro x hx y hy e
   simp at hy
   subst hy;subst e
   exact h2 hx
  ·
   simp [I.ls]
  ·
   intro w' hw'
   simp at hw'
   rcases hw' with hw' | hw'
   ·
    obtain ⟨b',i1,i2⟩:=I.ok w' hw'
    exact ⟨b',i1,fun p hp=>by simp [i2 p hp]⟩
   ·
    subst hw'
    refine ⟨s.2.1,.snoc hw hs (fun h=>h2 (hm _ h)) hb,?_⟩
    intro p hp
    simp at hp ⊢
    rcases hp with hp | hp
    ·
     exact .inl (hm p hp)
    ·
     exact .inr hp
  ·
   intro p hp
   simp at hp
   rcases hp with hp | hp
   ·
    exact I.sub p hp
   ·
    exact .inr ⟨s,hs,hp.symm⟩
  ·
   simp [I.ha]
 ·
  rename_i h
  refine ⟨I,⟨[],by simp⟩,⟨[],by simp⟩,?_⟩
  intro e
  subst e
  simp at h
  exact h
theorem kn {L0:List (P×P×N)} {ends:List P} {a b:P} {w:Wlk P N} (hw:Sw L0 ends a b w.1 w.2) (hb:b∉ends) :
  ∀ (L:List (P×P×N)) (q:List (Wlk P N)×List P),(∀ s∈L,s∈L0)→Inv L0 L0 ends a q→(∀ p∈w.1,p∈q.2)→
  Inv L0 L0 ends a (scan L w q)∧(∃ e,(scan L w q).1=q.1++e)∧(∃ e,(scan L w q).2=q.2++e)∧(∀ s∈L,s.1=b→s.2.1∈(scan L w q).2)
 | [],q,_,I,hm=>⟨I,⟨[],by simp [scan]⟩,⟨[],by simp [scan]⟩,by simp⟩
 | s::L,q,hL,I,hm=>by
  obtain ⟨i1,⟨e1,j1⟩,⟨e2,j2⟩,i4⟩:=scan1_inv I hw hm hb (hL s (by simp))
  have hm':∀ p∈w.1,p∈(scan1 w q s).2:=fun p hp=>by rw [j2];simp [hm p hp]
  obtain ⟨k1,⟨f1,l1⟩,⟨f2,l2⟩,k4⟩:=kn hw hb L (scan1 w q s) (fun t ht=>hL t (by simp [ht])) i1 hm'
  have e:scan (s::L) w q=scan L w (scan1 w q s):=rfl
  rw [e]
  refine ⟨k1,⟨e1++f1,by rw [l1,j1];simp⟩,⟨e2++f2,by rw [l2,j2];simp⟩,?_⟩
  intro t ht et
  simp at ht
  rcases ht with ht | ht
  ·
   subst ht
   rw [l2]
   exact List.mem_append.2 (.inl (i4 et))
  ·
   exact k4 t ht et
structure Shut (L:List (P×P×N)) (a:P) (S:List P):Prop where
 ha:a∈S
 cl:∀ s∈L,s.1∈S→s.2.1∈S
def BfsOk (L:List (P×P×N)) (a:P) (ends:List P):Option (Wlk P N)→Prop
 | some w=>∃ b,b∈ends∧Sw L ends a b w.1 w.2
 | none=>∃ S,Shut L a S∧∀ p∈S,p∉ends
theorem lS {L:List (P×P×N)} {ends:List P} {a:P} {q:List (Wlk P N)×List P} (I:Inv L L ends a q):q.1.length≤L.length+1:=by
 have h1:q.1.length=q.2.length:=by have:=congrArg List.length I.ls;simpa using this
 have h2:=List.Nodup.length_le_of_subset (l₂:=a::L.map (·.2.1)) I.nd (by
  intro p hp
  rcases I.sub p hp with e | ⟨s,hs,e⟩
  ·
   simp [e]
  ·
   simp only [List.mem_cons,List.mem_map];exact .inr ⟨s,hs,e⟩)
 simp at h2
 omega
theorem bfs_ok {L:List (P×P×N)} {ends:List P} {a:P}:∀ (f k:Nat) (q:List (Wlk P N)×List P),Inv L L ends a q→
  (∀ i,i<k→∀ w,q.1[i]?=some w→h7 ends w=false∧∀ s∈L,w.1.getLast?=some s.1→s.2.1∈q.2)→k≤q.1.length→L.length+2≤f+k→
  BfsOk L a ends (bfs L ends f k q)
 | 0,k,q,I,_,hk,hf=>by have:=lS I;omega
 | f+1,k,q,I,hd,hk,hf=>by
  unfold bfs
  split
  ·
   rename_i hn
   have hk':k=q.1.length:=by
    rw [List.getElem?_eq_none_iff] at hn;omega
   have key:∀ p∈q.2,∃ i w,i<k∧q.1[i]?=some w∧w.1.getLast?=some p:=by
    intro p hp
    have:some p∈q.1.map (fun w=>w.1.getLast?):=by rw [I.ls];simp [hp]
    rw [List.mem_map] at this
    obtain ⟨w,hw,e⟩:=this
    obtain ⟨i,hi,e'⟩:=List.mem_iff_getElem.1 hw
    exact ⟨i,w,by omega,by simp [e',hi],e⟩
   refine ⟨q.2,⟨I.ha,?_⟩,?_⟩
   ·
    intro s hs hp
    obtain ⟨i,w,hi,hw,hl⟩:=key s.1 hp
    exact (hd i hi w hw).2 s hs hl
   ·
    intro p hp he
    obtain ⟨i,w,hi,hw,hl⟩:=key p hp
    have:=(hd i hi w hw).1
    simp [h7,hl,he] at this
  ·
   rename_i w hw
   obtain ⟨b,sw,hm⟩:=I.ok w (List.mem_of_getElem? hw)
   split
   ·
    rename_i hl
    simp [h7,sw.last] at hl
    exact ⟨b,hl,sw⟩
   ·
    rename_i hl
    have hb:b∉ends:=by simpa [h7,sw.last] using hl
    obtain ⟨i1,⟨e1,j1⟩,⟨e2,j2⟩,i4⟩:=kn sw hb L q (fun _ h=>h) I hm
    have hk2:k<q.1.length:=by
     rcases Nat.lt_or_ge k q.1.length with h | h
     ·
      exact h
     ·
      rw [List.getElem?_eq_none h] at hw;simp at hw
    apply bfs_ok f (k+1) _ i1
    ·
     intro i hi w' hw'
     rw [j1,List.getElem?_append_left (by omega)] at hw'
     by_cases hik:i=k
     ·
      subst hik
      rw [hw] at hw'
      simp at hw'
      subst hw'
      refine ⟨by simpa using hl,?_⟩
      intro s hs e
      rw [sw.last] at e
      simp at e
      exact i4 s hs e.symm
     ·
      obtain ⟨d1,d2⟩:=hd i (by omega) w' hw'
      refine ⟨d1,fun s hs e=>?_⟩
      rw [j2]
      simp [d2 s hs e]
    ·
     rw [j1];simp;omega
    ·
     omega
theorem gM {L:List (P×P×N)} {a:P} {ends:List P} {n:Nat} (h:L.length+2≤n):BfsOk L a ends (ey n L a ends):=by
 apply bfs_ok
 ·
  exact ⟨by simp,by simp,by intro w hw;simp at hw;subst hw;exact ⟨a,.nil,by simp⟩,by simp,by simp⟩
 ·
  intro i hi;omega
 ·
  simp
 ·
  omega
end
end Mx
end
section
set_option linter.all false
namespace Mx
section
variable {P N:Type} [DecidableEq P] [DecidableEq N]
abbrev cF (P N:Type):=List (P×P×N)
def turned (s:P×P×N):P×P×N:=(s.2.1,s.1,s.2.2)
def nameOf (s:P×P×N):N:=s.2.2
def bR (L:cF P N) (names:List N):cF P N:=L.filter fun s=>decide (s.2.2∉names)
theorem gY {α β:Type} {f:α→β}:∀ {L:List α},L.Nodup→(∀ x∈L,∀ y∈L,f x=f y→x=y)→(L.map f).Nodup
 | [],_,_=>by simp
 | x::L,h,hf=>by
  simp only [List.map_cons,List.nodup_cons] at h ⊢
  refine ⟨?_,gY h.2 fun y hy z hz=>hf y (by simp [hy]) z (by simp [hz])⟩
  intro hx
  obtain ⟨y,hy,e⟩:=List.mem_map.1 hx
  have:=hf y (by simp [hy]) x (by simp) e
  subst this
  exact h.1 hy
theorem lT {α:Type} {p:α→Bool} {L:List α} (h:L.Nodup):(L.filter p).Nodup:=List.Pairwise.filter p h
def Uniq (L:cF P N):Prop:=∀ s∈L,∀ t∈L,s.2.2=t.2.2→t=s∨t=(s.2.1,s.1,s.2.2)
theorem dU {L:cF P N} {ns:List N} {s:P×P×N}:s∈bR L ns↔s∈L∧s.2.2∉ns:=by simp [bR]
end
end Mx
end
section
set_option linter.all false
namespace Mx
section
variable {P N:Type} [DecidableEq P] [DecidableEq N]
def aZ (L:cF P N) (p:P):cF P N:=L.filter fun s=>decide (p∉[s.1,s.2.1])
def db (n:Nat) (L:cF P N) (met:List P) (s:P×P×N):Option (Wlk P N):=
 (ey n (aZ L s.1) s.2.1 met).map fun w=>(s.1::w.1,s.2.2::w.2)
theorem cx {L:cF P N} {p:P} {s:P×P×N}:s∈aZ L p↔s∈L∧p≠s.1∧p≠s.2.1:=by simp [aZ]
structure Ear (L:cF P N) (met:List P) (used:List N) (e:Wlk P N):Prop where
 len:e.1.length=e.2.length+1
 pos:1≤e.2.length
 st:∀ s∈bb e,s∈L∧s.1∈e.1∧s.2.1∈e.1
 nm:(bb e).map nameOf=e.2
 nd:e.2.Nodup
 fresh:∀ x∈e.2,x∉used
 hd:∃ a,e.1.head?=some a∧a∈met
 lt:∃ b,e.1.getLast?=some b∧b∈met
 inn:∀ p∈e.1.tail.dropLast,p∉met
 kind:e.1.Nodup∨(e.1.tail.Nodup∧e.1.head?=e.1.getLast?∧2≤e.2.length)
theorem fR {p q:P} {ps:List P} {n:N} {ns:List N} (h:ps.head?=some q):bb (p::ps,n::ns)=(p,q,n)::bb (ps,ns):=by
 cases ps with
 | nil=>simp at h
 | cons x ps=>simp at h;subst h;rfl
theorem ko {ps:List P} {b:P} (nd:ps.Nodup) (hl:ps.getLast?=some b):∀ p∈ps.dropLast,p∈ps∧p≠b:=by
 obtain ⟨qs,rfl⟩:=List.getLast?_eq_some_iff.1 hl
 intro p hp
 simp at hp
 rw [List.nodup_append] at nd
 exact ⟨by simp [hp],fun e=>nd.2.2 p hp b (by simp) e⟩
theorem ear_of {L0 L:cF P N} {met:List P} {used:List N} {ends:List P} {M:cF P N} {s:P×P×N} {b:P} {ps:List P} {ns:List N}
  (hU:Uniq L0) (hL:∀ t∈L,t∈L0∧t.2.2∉used) (hM:∀ t∈M,t∈L) (hs:s∈L) (hm:s.1∈met) (hb:b∈met)
  (w:Sw M ends s.2.1 b ps ns) (hsn:s.2.2∉ns) (hin:∀ p∈ps,p≠b→p∉met)
  (hk:s.1∉ps∨(s.1=b∧s.2.1≠b)):Ear L0 met used (s.1::ps,s.2.2::ns):=by
 have hsi:bb (s.1::ps,s.2.2::ns)=(s.1,s.2.1,s.2.2)::bb (ps,ns):=fR w.head
 have nd:=w.namesNodup (fun x hx y hy e=>hU x (hL x (hM x hx)).1 y (hL y (hM y hy)).1 e)
 refine ⟨by simp [w.len],by simp,?_,?_,?_,?_,⟨s.1,rfl,hm⟩,⟨b,?_,hb⟩,?_,?_⟩
 ·
  intro t ht
  rw [hsi] at ht
  simp only [List.mem_cons] at ht
  rcases ht with rfl | ht
  ·
   exact ⟨(hL _ hs).1,by simp,by simp;exact .inr w.memA⟩
  ·
   have q:=w.step t ht
   exact ⟨(hL t (hM t q.1)).1,by simp [q.2.1],by simp [q.2.2.1]⟩
 ·
  rw [hsi];simp only [List.map_cons];rw [show (bb (ps,ns)).map nameOf=ns from w.names];rfl
 ·
  simp only [List.nodup_cons];exact ⟨hsn,nd⟩
 ·
  intro x hx
  simp only [List.mem_cons] at hx
  rcases hx with rfl | hx
  ·
   exact (hL s hs).2
  ·
   rw [←w.names] at hx
   obtain ⟨t,ht,rfl⟩:=List.mem_map.1 hx
   exact (hL t (hM t (w.step t ht).1)).2
 ·
  show (s.1::ps).getLast?=some b
  have:=w.last
  cases ps with
  | nil=>simp at this
  | cons x ps=>rw [List.getLast?_cons_cons];exact this
 ·
  intro p hp
  have:=ko w.nodup w.last p hp
  exact hin p this.1 this.2
 ·
  rcases hk with hk | ⟨hk,hk2⟩
  ·
   left;simp only [List.nodup_cons];exact ⟨hk,w.nodup⟩
  ·
   right
   refine ⟨w.nodup,?_,?_⟩
   ·
    show some s.1=(s.1::ps).getLast?
    have:=w.last
    cases ps with
    | nil=>simp at this
    | cons x ps=>rw [List.getLast?_cons_cons,this,hk]
   ·
    show 2≤(s.2.2::ns).length
    have h1:=w.len
    have h2:=w.head
    have h3:=w.last
    cases ps with
    | nil=>simp at h2
    | cons x ps=>
     cases ps with
     | nil=>simp at h2 h3;exact absurd (h2.symm.trans h3) hk2
     | cons y ps=>simp at h1 ⊢;omega
theorem cZ {L:cF P N} {p:P}:(aZ L p).length≤L.length:=List.length_filter_le _ _
theorem len_but {L:cF P N} {ns:List N}:(bR L ns).length≤L.length:=List.length_filter_le _ _
theorem way_ok {L0:cF P N} {met:List P} {used:List N} {s:P×P×N} {n:Nat} (hU:Uniq L0) (hne:∀ s∈L0,s.1≠s.2.1)
  (hs:s∈bR L0 used) (hm:s.1∈met) (hn:L0.length+2≤n) :
  match db n (bR L0 used) met s with
  | some e=>Ear L0 met used e∧e.1.Nodup
  | none=>∃ S,Shut (aZ (bR L0 used) s.1) s.2.1 S∧∀ p∈S,p∉met:=by
 have hb:=gM (L:=aZ (bR L0 used) s.1) (a:=s.2.1) (ends:=met) (n:=n) (by have:=cZ (L:=bR L0 used) (p:=s.1);have:=len_but (L:=L0) (ns:=used);omega)
 unfold db
 cases hq:ey n (aZ (bR L0 used) s.1) s.2.1 met with
 | none=>rw [hq] at hb;exact hb
 | some w=>
  rw [hq] at hb
  obtain ⟨b,hb1,sw⟩:=hb
  have hsp:s.1∉w.1:=by
   have key:∀ {b:P} {ps:List P} {ns:List N},Sw (aZ (bR L0 used) s.1) met s.2.1 b ps ns→s.1∉ps:=by
    intro b ps ns h
    induction h with
    | nil=>simp;exact hne s (dU.1 hs).1
    | snoc h1 h2 _ _ ih=>simp;exact ⟨ih,(cx.1 h2).2.2⟩
   exact key sw
  have hsn:s.2.2∉w.2:=by
   intro h
   rw [←sw.names] at h
   obtain ⟨t,ht,e1⟩:=List.mem_map.1 h
   have q:=cx.1 (sw.step t ht).1
   rcases hU s (dU.1 hs).1 t (dU.1 q.1).1 e1.symm with e2 | e2
   ·
    rw [e2] at q;exact q.2.1 rfl
   ·
    rw [e2] at q;exact q.2.2 rfl
  simp only [Option.map_some]
  refine ⟨ear_of hU (fun t ht=>dU.1 ht) (fun t ht=>(cx.1 ht).1) hs hm hb1 sw hsn ?_ (.inl hsp),?_⟩
  ·
   intro p hp hpb
   rcases sw.inner p hp with h | h
   ·
    exact absurd h hpb
   ·
    exact h
  ·
   simp only [List.nodup_cons];exact ⟨hsp,sw.nodup⟩
end
end Mx
end
section
set_option linter.all false
namespace Mx
section
variable {P:Type} [DecidableEq P]
def dC (p:P) (f:List P) (s:P×P):List P:=if s.1=p∧s.2∉f then f++[s.2] else f
def gx (L:List (P×P)) (p:P) (f:List P):List P:=L.foldl (dC p) f
def jA (L:List (P×P)):Nat→Nat→List P→List P
 | 0,_,f=>f
 | n+1,k,f=>match f[k]? with
  | none=>f
  | some p=>jA L n (k+1) (gx L p f)
def reach (n:Nat) (L:List (P×P)) (a:P):List P:=jA L n 0 [a]
structure RInv (L:List (P×P)) (a:P) (f:List P):Prop where
 nd:f.Nodup
 ha:a∈f
 sub:∀ p∈f,p=a∨∃ s∈L,s.2=p
 min:∀ Q:P→Prop,Q a→(∀ s∈L,Q s.1→Q s.2)→∀ p∈f,Q p
theorem jd {L0:List (P×P)} {a p:P}:∀ (L:List (P×P)) (f:List P),(∀ s∈L,s∈L0)→RInv L0 a f→p∈f→
  RInv L0 a (gx L p f)∧(∃ e,gx L p f=f++e)∧∀ s∈L,s.1=p→s.2∈gx L p f
 | [],f,_,I,_=>⟨I,⟨[],by simp [gx]⟩,by simp⟩
 | s::L,f,hL,I,hp=>by
  have e:gx (s::L) p f=gx L p (dC p f s):=rfl
  have h1:RInv L0 a (dC p f s)∧(∃ e,dC p f s=f++e)∧(s.1=p→s.2∈dC p f s):=by
   unfold dC
   split
   ·
    rename_i h
    refine ⟨⟨?_,by simp [I.ha],?_,?_⟩,⟨_,rfl⟩,by simp⟩
    ·
     rw [List.nodup_append]
     refine ⟨I.nd,by simp,?_⟩
     intro x hx y hy exy
     simp at hy
     subst hy;subst exy
     exact h.2 hx
    ·
     intro q hq
     simp at hq
     rcases hq with hq | hq
     ·
      exact I.sub q hq
     ·
      exact .inr ⟨s,hL s (by simp),hq.symm⟩
    ·
     intro Q q1 q2 q hq
     simp at hq
     rcases hq with hq | hq
     ·
      exact I.min Q q1 q2 q hq
     ·
      rw [hq];exact q2 s (hL s (by simp)) (by rw [h.1];exact I.min Q q1 q2 p hp)
   ·
    rename_i h
    refine ⟨I,⟨[],by simp⟩,?_⟩
    intro e1
    simp [e1] at h
    exact h
  obtain ⟨i1,⟨e1,j1⟩,i3⟩:=h1
  obtain ⟨k1,⟨f1,l1⟩,k3⟩:=jd (p:=p) L (dC p f s) (fun t ht=>hL t (by simp [ht])) i1 (by rw [j1];simp [hp])
  rw [e]
  refine ⟨k1,⟨e1++f1,by rw [l1,j1];simp⟩,?_⟩
  intro t ht et
  rw [List.mem_cons] at ht
  rcases ht with rfl | ht
  ·
   rw [l1];exact List.mem_append.2 (.inl (i3 et))
  ·
   exact k3 t ht et
structure lU (L:List (P×P)) (a:P) (f:List P):Prop extends RInv L a f where
 cl:∀ s∈L,s.1∈f→s.2∈f
theorem mR {L:List (P×P)} {a:P}:∀ (n k:Nat) (f:List P),RInv L a f→(∀ i,i<k→∀ p,f[i]?=some p→∀ s∈L,s.1=p→s.2∈f)→k≤f.length→L.length+2≤n+k→
  lU L a (jA L n k f)
 | 0,k,f,I,_,hk,hn=>by
  have h2:=List.Nodup.length_le_of_subset (l₂:=a::L.map (·.2)) I.nd (by
   intro p hp
   rcases I.sub p hp with e | ⟨s,hs,e⟩
   ·
    simp [e]
   ·
    simp only [List.mem_cons,List.mem_map];exact .inr ⟨s,hs,e⟩)
  simp at h2
  omega
 | n+1,k,f,I,hd,hk,hn=>by
  unfold jA
  split
  ·
   rename_i h
   rw [List.getElem?_eq_none_iff] at h
   refine { I with cl:=?_ }
   intro s hs hp
   obtain ⟨i,hi,e⟩:=List.mem_iff_getElem.1 hp
   exact hd i (by omega) s.1 (by simp [e,hi]) s hs rfl
  ·
   rename_i p h
   have hk2:k<f.length:=by
    rcases Nat.lt_or_ge k f.length with h' | h'
    ·
     exact h'
    ·
     rw [List.getElem?_eq_none h'] at h;simp at h
   obtain ⟨i1,⟨e1,j1⟩,i3⟩:=jd (p:=p) L f (fun _ h=>h) I (List.mem_of_getElem? h)
   apply mR n (k+1) _ i1
   ·
    intro i hi q hq
    rw [j1,List.getElem?_append_left (by omega)] at hq
    by_cases hik:i=k
    ·
     subst hik
     rw [h] at hq
     simp at hq
     subst hq
     exact i3
    ·
     intro s hs e2
     rw [j1]
     exact List.mem_append.2 (.inl (hd i (by omega) q hq s hs e2))
   ·
    rw [j1];simp;omega
   ·
    omega
theorem reach_ok {L:List (P×P)} {a:P} {n:Nat} (h:L.length+2≤n):lU L a (reach n L a):=by
 apply mR
 ·
  exact ⟨by simp,by simp,by simp,by intro Q h _ p hp;simp at hp;rw [hp];exact h⟩
 ·
  intro i hi;omega
 ·
  simp
 ·
  omega
end
end Mx
end
section
set_option linter.all false
namespace Mx
section
variable {P N:Type} [DecidableEq P] [DecidableEq N]
def ins (row:List P) (a:P) (mid:List P):List P:=row.take (row.idxOf a+1)++mid++row.drop (row.idxOf a+1)
def eR (row ps:List P):List P:=match ps.head?,ps.getLast? with
 | some a,some b=>if row.idxOf b<row.idxOf a then ins row b ps.reverse.tail.dropLast else ins row a ps.tail.dropLast
 | _,_=>row
def eS (n:Nat) (L:cF P N) (many:Nat):Nat→List P→Option (List P)
 | 0,_=>none
 | f+1,row=>if row.length<many then match L.filter fun s=>decide (s.1∈row)&&decide (s.2.1∉row) with
   | []=>none
   | s::_=>match db n L row s with
    | none=>none
    | some w=>eS n L many f (eR row w.1)
  else some row
structure Num (tied:P→P→Prop) (one other:P) (row:List P):Prop where
 nd:row.Nodup
 hd:row.head?=some one
 lt:row.getLast?=some other
 inn:∀ x∈row,x≠one→x≠other→(∃ y,tied y x∧[y,x].Sublist row)∧∃ z,tied x z∧[x,z].Sublist row
def Adj (tied:P→P→Prop) (ps:List P):Prop:=∀ A x y B,ps=A++x::y::B→tied x y
theorem Adj.rev {tied:P→P→Prop} (sym:∀ x y,tied x y→tied y x) {ps:List P} (h:Adj tied ps):Adj tied ps.reverse:=by
 intro A x y B e
 apply sym
 apply h B.reverse y x A.reverse
 have:=congrArg List.reverse e
 simpa using this
theorem ld {tied:P→P→Prop} {L:cF P N} (hL:∀ s∈L,tied s.1 s.2.1):∀ {ps:List P} {ns:List N},ps.length=ns.length+1→(∀ s∈bb (ps,ns),s∈L)→Adj tied ps
 | [],_,_,_=>by intro A x y B e;simp at e
 | [p],_,_,_=>by
  intro A x y B e
  have:=congrArg List.length e
  simp at this
  omega
 | p::q::ps,[],h,_=>by simp at h
 | p::q::ps,n::ns,h,hs=>by
  rw [fR (q:=q) rfl] at hs
  have ih:=ld (tied:=tied) hL (ps:=q::ps) (ns:=ns) (by simpa using h) (fun s h=>hs s (by simp [h]))
  intro A x y B e
  cases A with
  | nil=>simp at e;obtain ⟨rfl,rfl,rfl⟩:=e;exact hL _ (hs (p,q,n) (by simp))
  | cons a A=>simp at e;exact ih A x y B e.2
theorem num_ins {tied:P→P→Prop} {one other a b:P} {A B M:List P} (h:Num tied one other (A++a::B)) (hb:b∈B) (hadj:Adj tied (a::M++[b])) (hM:M.Nodup)
  (hd:∀ m∈M,m∉A++a::B):Num tied one other (A++a::(M++B)):=by
 have hsub:(A++a::B).Sublist (A++a::(M++B)):=List.Sublist.append_left (List.Sublist.cons_cons a (List.sublist_append_right M B)) A
 have hpath:(a::M++[b]).Sublist (A++a::(M++B)):=by
  have h1:(a::M++[b]).Sublist (a::(M++B)):=by
   simp only [List.cons_append]
   exact List.Sublist.cons_cons a (List.Sublist.append_left (List.singleton_sublist.2 hb) M)
  exact h1.trans (List.sublist_append_right A _)
 refine ⟨?_,?_,?_,?_⟩
 ·
  have n0:=h.nd
  rw [List.nodup_append,List.nodup_cons] at n0
  rw [List.nodup_append,List.nodup_cons,List.nodup_append]
  refine ⟨n0.1,⟨?_,hM,n0.2.1.2,?_⟩,?_⟩
  ·
   rw [List.mem_append]
   intro hx
   rcases hx with hx | hx
   ·
    exact hd a hx (by simp)
   ·
    exact n0.2.1.1 hx
  ·
   intro x hx y hy e
   subst e
   exact hd x hx (by simp [hy])
  ·
   intro x hx y hy e
   subst e
   simp only [List.mem_cons,List.mem_append] at hy
   rcases hy with hy | hy | hy
   ·
    exact n0.2.2 x hx x (by simp [hy]) rfl
   ·
    exact hd x hy (by simp [hx])
   ·
    exact n0.2.2 x hx x (by simp [hy]) rfl
 ·
  have:=h.hd
  cases A with
  | nil=>simpa using this
  | cons x A=>simpa using this
 ·
  have:=h.lt
  obtain ⟨C,e⟩:=List.getLast?_eq_some_iff.1 this
  have hB:B.getLast?=some other:=by
   rw [List.getLast?_append,List.getLast?_cons] at this
   cases hB:B.getLast? with
   | none=>rw [List.getLast?_eq_none_iff] at hB;rw [hB] at hb;simp at hb
   | some z=>rw [hB] at this;simpa using this
  rw [List.getLast?_append,List.getLast?_cons,List.getLast?_append,hB]
  simp
 ·
  intro x hx x1 x2
  by_cases hxm:x∈A++a::B
  ·
   obtain ⟨⟨y,y1,y2⟩,⟨z,z1,z2⟩⟩:=h.inn x hxm x1 x2
   exact ⟨⟨y,y1,y2.trans hsub⟩,⟨z,z1,z2.trans hsub⟩⟩
  ·
   have hxM:x∈M:=by
    simp only [List.mem_cons,List.mem_append] at hx hxm
    rcases hx with hx | hx | hx | hx
    ·
     exact absurd (.inl hx) hxm
    ·
     exact absurd (.inr (.inl hx)) hxm
    ·
     exact hx
    ·
     exact absurd (.inr (.inr hx)) hxm
   obtain ⟨M1,M2,rfl⟩:=List.append_of_mem hxM
   constructor
   ·
    obtain ⟨C,y,e⟩ : ∃ C y,a::M1=C++[y]:=by
     rcases List.eq_nil_or_concat (a::M1) with h | ⟨C,y,h⟩
     ·
      simp at h
     ·
      exact ⟨C,y,by simpa using h⟩
    have e2:a::(M1++x::M2)++[b]=C++y::x::(M2++[b]):=by
     have:a::(M1++x::M2)++[b]=(a::M1)++(x::(M2++[b])):=by simp
     rw [this,e];simp
    refine ⟨y,hadj C y x _ e2,?_⟩
    refine List.Sublist.trans ?_ hpath
    rw [e2]
    exact (List.Sublist.cons_cons y (List.Sublist.cons_cons x (List.nil_sublist _))).trans (List.sublist_append_right C _)
   ·
    obtain ⟨z,D,e⟩ : ∃ z D,M2++[b]=z::D:=by
     cases M2 with
     | nil=>exact ⟨b,[],rfl⟩
     | cons z M2=>exact ⟨z,M2++[b],rfl⟩
    have e2:a::(M1++x::M2)++[b]=(a::M1)++x::z::D:=by
     have:a::(M1++x::M2)++[b]=(a::M1)++(x::(M2++[b])):=by simp
     rw [this,e]
    refine ⟨z,hadj (a::M1) x z _ e2,?_⟩
    refine List.Sublist.trans ?_ hpath
    rw [e2]
    exact (List.Sublist.cons_cons x (List.Sublist.cons_cons z (List.nil_sublist _))).trans (List.sublist_append_right _ _)
theorem jB {a:P}:∀ {row:List P},a∈row→∃ A B,row=A++a::B∧a∉A
 | [],h=>by simp at h
 | x::row,h=>by
  by_cases hx:x=a
  ·
   subst hx;exact ⟨[],row,rfl,by simp⟩
  ·
   simp only [List.mem_cons] at h
   rcases h with h | h
   ·
    exact absurd h.symm hx
   ·
    obtain ⟨A,B,e,hA⟩:=jB h
    refine ⟨x::A,B,by simp [e],?_⟩
    simp only [List.mem_cons,not_or]
    exact ⟨fun e=>hx e.symm,hA⟩
theorem lf {row:List P} {a:P} (h:a∈row):∃ A B,row=A++a::B∧a∉A∧row.idxOf a=A.length∧∀ M,ins row a M=A++a::(M++B):=by
 obtain ⟨A,B,e,hA⟩:=jB h
 have hi:row.idxOf a=A.length:=by
  subst e
  rw [List.idxOf_append]
  simp [hA]
 refine ⟨A,B,e,hA,hi,?_⟩
 intro M
 unfold ins
 rw [hi,e]
 have h1:(A++a::B).take (A.length+1)=A++[a]:=by
  rw [List.take_append];simp [List.take_of_length_le]
 have h2:(A++a::B).drop (A.length+1)=B:=by
  rw [List.drop_append];simp [List.drop_of_length_le]
 rw [h1,h2]
 simp
theorem mS {row:List P} {a b:P} (ha:a∈row) (hb:b∈row) (hab:a≠b) (hle:row.idxOf a≤row.idxOf b) {A B:List P} (e:row=A++a::B) (hA:a∉A) (hi:row.idxOf a=A.length):b∈B:=by
 rw [e] at hb
 simp only [List.mem_append,List.mem_cons] at hb
 rcases hb with hb | hb | hb
 ·
  exfalso
  have:row.idxOf b<A.length:=by
   rw [e,List.idxOf_append,if_pos hb]
   exact List.idxOf_lt_length_of_mem hb
  omega
 ·
  exact absurd hb.symm hab
 ·
  exact hb
theorem num_way {tied:P→P→Prop} (sym:∀ x y,tied x y→tied y x) {one other:P} {row:List P} (h:Num tied one other row) {ps:List P} {a b:P} {mid:List P} (hps:ps=a::mid++[b])
  (nd:ps.Nodup) (ha:a∈row) (hb:b∈row) (hin:∀ m∈mid,m∉row) (hadj:Adj tied ps) :
  Num tied one other (eR row ps)∧(eR row ps).length=row.length+mid.length∧∀ p,p∈eR row ps↔p∈row∨p∈mid:=by
 have hab:a≠b:=by
  intro e
  subst hps
  simp only [List.cons_append,List.nodup_cons,List.mem_append] at nd
  exact nd.1 (.inr (by simp [e]))
 have hmid:mid.Nodup:=by
  subst hps
  simp only [List.cons_append,List.nodup_cons] at nd
  rw [List.nodup_append] at nd
  exact nd.2.1
 have e1:ps.head?=some a:=by rw [hps];rfl
 have e2:ps.getLast?=some b:=by rw [hps,List.getLast?_append];rfl
 have e3:ps.tail.dropLast=mid:=by rw [hps];simp
 have e4:ps.reverse.tail.dropLast=mid.reverse:=by rw [hps];simp
 unfold eR
 rw [e1,e2]
 simp only
 split
 ·
  rename_i hlt
  rw [e4]
  obtain ⟨A,B,r1,r2,r3,r4⟩:=lf hb
  rw [r4]
  have haB:=mS hb ha (fun e=>hab e.symm) (by omega) r1 r2 r3
  have hr:ps.reverse=b::mid.reverse++[a]:=by rw [hps];simp
  refine ⟨num_ins (by rw [←r1];exact h) haB (by rw [←hr];exact hadj.rev sym) ((List.Perm.nodup_iff (List.reverse_perm mid)).2 hmid) (by intro m hm;rw [←r1];exact hin m (by simpa using hm)),?_,?_⟩
  ·
   rw [r1];simp;omega
  ·
   intro p;rw [r1];simp;
   constructor
   ·
    rintro (h | h | h | h) <;> simp [h]
   ·
    rintro ((h | h | h) | h) <;> simp [h]
 ·
  rename_i hlt
  rw [e3]
  obtain ⟨A,B,r1,r2,r3,r4⟩:=lf ha
  rw [r4]
  have hbB:=mS ha hb hab (by omega) r1 r2 r3
  refine ⟨num_ins (by rw [←r1];exact h) hbB (by rw [←hps];exact hadj) hmid (by intro m hm;rw [←r1];exact hin m hm),?_,?_⟩
  ·
   rw [r1];simp;omega
  ·
   intro p;rw [r1];simp
   constructor
   ·
    rintro (h | h | h | h) <;> simp [h]
   ·
    rintro ((h | h | h) | h) <;> simp [h]
def mT (L:cF P N) (pt:P→Prop) (one other:P):Prop:=∀ d,pt d→∀ Q:P→Prop,Q one→Q other→(∀ t∈L,t.1≠d→t.2.1≠d→Q t.1→Q t.2.1)→∀ p,pt p→p≠d→Q p
theorem row_ok {L:cF P N} {pt:P→Prop} {one other:P} {tied:P→P→Prop} {pts:List P} (U:Uniq L) (sym:∀ s∈L,turned s∈L) (ne:∀ s∈L,s.1≠s.2.1) (hpt:∀ s∈L,pt s.1)
  (ht:∀ s∈L,tied s.1 s.2.1) (tsym:∀ x y,tied x y→tied y x) (hpts:pts.Nodup) (hmem:∀ p,p∈pts↔pt p) (K:mT L pt one other) (p1:pt one)
  {n:Nat} (hn:L.length+2≤n):∀ (f:Nat) (row:List P),Num tied one other row→(∀ p∈row,pt p)→pts.length<f+row.length→
  ∃ row',eS n L pts.length f row=some row'∧Num tied one other row'∧(∀ p∈row',pt p)∧pts.length≤row'.length
 | 0,row,h,hp,hf=>by
  have:=List.Nodup.length_le_of_subset h.nd (l₂:=pts) (fun p hpp=>(hmem p).2 (hp p hpp))
  omega
 | f+1,row,h,hp,hf=>by
  unfold eS
  split
  ·
   rename_i hlt
   have hone:one∈row:=List.mem_of_head? h.hd
   have hoth:other∈row:=List.mem_of_getLast? h.lt
   cases hc:L.filter (fun s=>decide (s.1∈row)&&decide (s.2.1∉row)) with
   | nil=>
    exfalso
    rw [List.filter_eq_nil_iff] at hc
    have hsub:∀ p,pt p→p∈row:=by
     intro p hpp
     by_cases hpo:p=one
     ·
      rw [hpo];exact hone
     ·
      refine K one p1 (fun p=>p∈row) hone hoth ?_ p hpp hpo
      intro t ht _ _ h1
      have:=hc t ht
      simp [h1] at this
      exact this
    have:=List.Nodup.length_le_of_subset hpts (l₂:=row) (fun p hpp=>hsub p ((hmem p).1 hpp))
    omega
   | cons s rest=>
    have hs:s∈L∧_:=(List.mem_filter (p:=fun s:P×P×N=>decide (s.1∈row)&&decide (s.2.1∉row))).1 (by rw [hc];simp)
    have hs1:s.1∈row∧s.2.1∉row:=by simpa using hs.2
    have hb:bR L []=L:=by simp [bR]
    have hw:=way_ok (L0:=L) (used:=[]) (met:=row) (s:=s) (n:=n) U ne (by rw [hb];exact hs.1) hs1.1 hn
    rw [hb] at hw
    simp only
    cases hq:db n L row s with
    | none=>
     rw [hq] at hw
     obtain ⟨S,s1,s2⟩:=hw
     exfalso
     refine (K s.1 (hpt s hs.1) (fun p=>p∉S) (fun h=>s2 _ h hone) (fun h=>s2 _ h hoth) ?_ s.2.1 (hpt (turned s) (sym s hs.1)) (fun e=>ne s hs.1 e.symm)) s1.ha
     intro t ht t1 t2 h1 h2
     exact h1 (s1.cl (turned t) (cx.2 ⟨sym t ht,fun e=>t2 e.symm,fun e=>t1 e.symm⟩) h2)
    | some w=>
     rw [hq] at hw
     simp only
     obtain ⟨E,nd⟩:=hw
     have hhead:w.1.head?=some s.1∧w.1.tail.head?=some s.2.1:=by
      unfold db at hq
      cases hz:ey n (aZ L s.1) s.2.1 row with
      | none=>rw [hz] at hq;simp at hq
      | some v=>
       rw [hz] at hq
       simp at hq
       have hb2:=gM (L:=aZ L s.1) (a:=s.2.1) (ends:=row) (n:=n) (by have:=cZ (L:=L) (p:=s.1);omega)
       rw [hz] at hb2
       obtain ⟨_,_,sw⟩:=hb2
       rw [←hq]
       exact ⟨rfl,sw.head⟩
     obtain ⟨b,b1,b2⟩:=E.lt
     obtain ⟨mid,em⟩ : ∃ mid,w.1=s.1::mid++[b]:=by
      cases hw1:w.1 with
      | nil=>rw [hw1] at hhead;simp at hhead
      | cons x xs=>
       rw [hw1] at hhead b1
       simp at hhead
       obtain ⟨h1,h2⟩:=hhead
       subst h1
       cases xs with
       | nil=>simp at h2
       | cons y ys=>
        rw [List.getLast?_cons_cons] at b1
        obtain ⟨C,eC⟩:=List.getLast?_eq_some_iff.1 b1
        exact ⟨C,by rw [eC];simp⟩
     have hmid:w.1.tail.dropLast=mid:=by rw [em];simp
     have hin:∀ m∈mid,m∉row:=by rw [←hmid];exact E.inn
     have hadj:Adj tied w.1:=ld (L:=L) ht E.len (fun s hs=>(E.st s hs).1)
     obtain ⟨n1,n2,n3⟩:=num_way tsym h em nd hs1.1 b2 hin hadj
     have hpos:0<mid.length:=by
      cases mid with
      | nil=>
       rw [em] at hhead
       simp at hhead
       exact absurd (hhead▸b2) hs1.2
      | cons x xs=>simp
     refine row_ok U sym ne hpt ht tsym hpts hmem K p1 hn f _ n1 ?_ (by omega)
     intro p hpp
     rcases (n3 p).1 hpp with h1 | h1
     ·
      exact hp p h1
     ·
      have hpw:p∈w.1:=by rw [em];simp [h1]
      have:∀ {ps:List P} {ns:List N},ps.length=ns.length+1→1≤ns.length→(∀ s∈bb (ps,ns),s∈L)→∀ p∈ps,pt p:=by
       intro ps
       induction ps with
       | nil=>intro ns h;simp at h
       | cons x ps ih=>
        intro ns hl hp hst p hpm
        cases ns with
        | nil=>simp at hp
        | cons m ns=>
         cases ps with
         | nil=>simp at hl
         | cons y ps=>
          rw [fR (q:=y) rfl] at hst
          have hxy:=hst (x,y,m) (by simp)
          rw [List.mem_cons] at hpm
          rcases hpm with rfl | hpm
          ·
           exact hpt _ hxy
          ·
           cases ns with
           | nil=>
            simp at hl
            subst hl
            simp at hpm
            subst hpm
            exact hpt _ (sym _ hxy)
           | cons m2 ns=>exact ih (ns:=m2::ns) (by simpa using hl) (by simp) (fun s h=>hst s (by simp [h])) p hpm
      exact this E.len E.pos (fun s hs=>(E.st s hs).1) p hpw
  ·
   rename_i hlt
   exact ⟨row,rfl,h,hp,by omega⟩
end
end Mx
end
section
set_option linter.all false
set_option Elab.async false
namespace Ew
open PySem PySem.Spec L2
structure Enc (α:Type) [DecidableEq α] where
 e:α→D
 k:Nat
 ok:∀ a,(e a).plain=true∧(e a).py.canLay0=true∧(e a).py.depth≤k
 eq:∀ a b,eqP (e a) (e b)=decide (a=b)
def Enc.int:Enc Int:=⟨.int,1,fun i=>by
 obtain ⟨a,b,c⟩:=bF (c9 i)
 exact ⟨a,b,by unfold D.py PyData.depth;omega⟩,jY⟩
section
variable {α β:Type} [DecidableEq α] [DecidableEq β]
theorem eqP_tup3 (a b c a' b' c':D):eqP (.tup [a,b,c]) (.tup [a',b',c'])=(eqP a a'&&(eqP b b'&&eqP c c')):=by
 simp only [eqP,D.py,pys,PyData.eqv,PyData.eqvAll,Bool.and_true]
theorem eqP_tup2 (a b a' b':D):eqP (.tup [a,b]) (.tup [a',b'])=(eqP a a'&&eqP b b'):=by
 simp only [eqP,D.py,pys,PyData.eqv,PyData.eqvAll,Bool.and_true]
theorem mU {k:Nat} {ds:List D} (h:∀ d∈ds,d.py.depth≤k):PyData.depthAll (pys ds)≤k:=gw fun d hd=>by
 rw [fK] at hd
 obtain ⟨e,he,rfl⟩:=List.mem_map.mp hd
 exact h e he
theorem ok_tup {k:Nat} {ds:List D} (h:∀ d∈ds,d.plain=true∧d.py.canLay0=true∧d.py.depth≤k):(D.tup ds).plain=true∧(D.tup ds).py.canLay0=true∧(D.tup ds).py.depth≤k+1:=by
 refine ⟨?_,?_,?_⟩
 ·
  unfold D.plain;rw [hX];exact List.all_eq_true.mpr fun d hd=>(h d hd).1
 ·
  unfold D.py PyData.canLay0;rw [fg,fK];exact List.all_eq_true.mpr fun d hd=>by
   obtain ⟨e,he,rfl⟩:=List.mem_map.mp hd
   exact (h e he).2.1
 ·
  unfold D.py PyData.depth
  have:=mU (k:=k) fun d hd=>(h d hd).2.2
  omega
def Enc.tri (A:Enc α) (B:Enc β):Enc (α×α×β):=⟨fun s=>.tup [A.e s.1,A.e s.2.1,B.e s.2.2],max A.k B.k+1,fun s=>ok_tup fun d hd=>by
 simp at hd
 rcases hd with rfl | rfl | rfl
 ·
  have:=A.ok s.1;exact ⟨this.1,this.2.1,by omega⟩
 ·
  have:=A.ok s.2.1;exact ⟨this.1,this.2.1,by omega⟩
 ·
  have:=B.ok s.2.2;exact ⟨this.1,this.2.1,by omega⟩,fun a b=>by
 rw [eqP_tup3,A.eq,A.eq,B.eq]
 rcases a with ⟨a1,a2,a3⟩
 rcases b with ⟨b1,b2,b3⟩
 simp⟩
def Enc.par (A:Enc α) (B:Enc β):Enc (α×β):=⟨fun s=>.tup [A.e s.1,B.e s.2],max A.k B.k+1,fun s=>ok_tup fun d hd=>by
 simp at hd
 rcases hd with rfl | rfl
 ·
  have:=A.ok s.1;exact ⟨this.1,this.2.1,by omega⟩
 ·
  have:=B.ok s.2;exact ⟨this.1,this.2.1,by omega⟩,fun a b=>by
 rw [eqP_tup2,A.eq,B.eq]
 rcases a with ⟨a1,a2⟩
 rcases b with ⟨b1,b2⟩
 simp⟩
variable (A:Enc α)
theorem Enc.okD (h:A.k≤16) (a:α):Ew.okD (A.e a)=true:=by
 obtain ⟨p,q,r⟩:=A.ok a
 unfold Ew.okD
 rw [p,q]
 simp
 omega
theorem Enc.okL (h:A.k≤15) (as:List α):Ew.okD (.lst (as.map A.e))=true:=mP fun d hd=>by
 obtain ⟨a,_,rfl⟩:=List.mem_map.mp hd
 obtain ⟨p,q,r⟩:=A.ok a
 exact ⟨p,q,by omega⟩
theorem Enc.oEq (h:A.k≤15) (a b:α):Ew.oEq (A.e a) (A.e b)=some (.sh (.bl (decide (a=b)))):=by
 unfold Ew.oEq
 rw [if_pos ⟨A.okD (by omega) a,A.okD (by omega) b⟩,A.eq]
theorem Enc.any (a:α) (as:List α):((as.map A.e).any fun y=>eqP y (A.e a))=decide (a∈as):=by
 induction as with
 | nil=>rfl
 | cons b as ih=>
  simp only [List.map_cons,List.any_cons,ih,A.eq]
  by_cases h:b=a
  ·
   subst h;simp
  ·
   have h2:¬a=b:=fun e=>h e.symm
   simp [h,h2]
theorem Enc.oIn (h:A.k≤15) (a:α) (as:List α):Ew.oIn (A.e a) (.lst (as.map A.e))=some (.sh (.bl (decide (a∈as)))):=by
 show (if Ew.okD (A.e a)=true∧Ew.okD (D.lst (List.map A.e as))=true then some (R.sh (D.bl ((as.map A.e).any fun y=>eqP y (A.e a)))) else none)=_
 rw [if_pos ⟨A.okD (by omega) a,A.okL h as⟩,A.any]
theorem Enc.oNotIn (h:A.k≤15) (a:α) (as:List α):Ew.oNotIn (A.e a) (.lst (as.map A.e))=some (.sh (.bl (!decide (a∈as)))):=by
 show (if Ew.okD (A.e a)=true∧Ew.okD (D.lst (List.map A.e as))=true then some (R.sh (D.bl (!(as.map A.e).any fun y=>eqP y (A.e a)))) else none)=_
 rw [if_pos ⟨A.okD (by omega) a,A.okL h as⟩,A.any]
theorem Enc.oEqL (h:A.k≤15) (as bs:List α):Ew.oEq (.lst (as.map A.e)) (.lst (bs.map A.e))=some (.sh (.bl (decide (as=bs)))):=by
 unfold Ew.oEq
 rw [if_pos ⟨A.okL h as,A.okL h bs⟩]
 congr 3
 have key:∀ as bs:List α,PyData.eqvAll (pys (as.map A.e)) (pys (bs.map A.e))=decide (as=bs):=by
  intro as
  induction as with
  | nil=>intro bs;cases bs <;> simp [pys,PyData.eqvAll]
  | cons a as ih=>
   intro bs
   cases bs with
   | nil=>simp [pys,PyData.eqvAll]
   | cons b bs=>
    simp only [List.map_cons,pys,PyData.eqvAll,ih]
    have:=A.eq a b
    unfold eqP at this
    rw [this]
    simp
 unfold eqP D.py PyData.eqv
 exact key as bs
end
theorem lV {α:Type} (xs:List α):atI xs (-1)=xs.getLast?:=by
 unfold atI ixN
 cases xs with
 | nil=>simp
 | cons x xs=>
  have h1:¬((0:Int)≤-1):=by omega
  have h2:-((x::xs).length:Int)≤-1:=by simp;omega
  rw [if_neg h1,if_pos h2]
  have e:((-1:Int)+((x::xs).length:Nat)).toNat=(x::xs).length-1:=by simp;omega
  show (x::xs)[_]?=_
  rw [e,List.getLast?_eq_getElem?]
theorem atIn {α:Type} (xs:List α) (i:Nat):atI xs (i:Int)=xs[i]?:=by
 unfold atI ixN
 rw [if_pos (by omega)]
 by_cases h:i<xs.length
 ·
  rw [if_pos (by omega)];rfl
 ·
  rw [if_neg (by omega),List.getElem?_eq_none (by omega)];rfl
theorem eT {α:Type} (xs:List α):atI xs 0=xs[0]?:=atIn xs 0
theorem gc {α:Type} (xs:List α):atI xs 1=xs[1]?:=atIn xs 1
theorem atI_2 {α:Type} (xs:List α):atI xs 2=xs[2]?:=atIn xs 2
theorem getLast?_map' {α β:Type} (f:α→β) (xs:List α):(xs.map f).getLast?=xs.getLast?.map f:=by
 rw [List.getLast?_eq_getElem?,List.getLast?_eq_getElem?,List.getElem?_map,List.length_map]
end Ew
end
section
set_option Elab.async false
set_option linter.all false
set_option maxRecDepth 100000
set_option maxHeartbeats 4000000
namespace Pg
open PySem PySem.Spec L2 Ew
def top (i:Nat):Stmt:=PySem.Challenge.pw_earworks_k04_whole_numbered.main.body.getD i (.Pass ⟨0,0,0,0⟩)
structure CA where
 Answer:Addr
 Bar:Addr
 Joint:Addr
 Numbers:Addr
 Pocket:Addr
 Web:Addr
def c5 (c:CA):D→Option Bool:=isT [(c.Numbers,true),(c.Pocket,true),(c.Web,false)]
def h9 (c:CA):D→Option Bool:=isT [(c.Numbers,false),(c.Pocket,false),(c.Web,false)]
def ez (c:CA):D→Option Bool:=isT [(c.Numbers,false),(c.Pocket,false),(c.Web,false)]
def bO (c:CA):D→Option Bool:=isT [(c.Numbers,true),(c.Pocket,false),(c.Web,false)]
def c6 (c:CA):D→Option Bool:=isT [(c.Numbers,false),(c.Pocket,true),(c.Web,false)]
def lW (c:CA):D→Option Bool:=isT [(c.Numbers,false),(c.Pocket,false),(c.Web,true)]
structure Txt (K:PySem.W.Frag) (mg:Str→Option Value) (c:CA) where
 c1_:Cd K mg c.Answer "Answer"
 e1_:Cd K mg c.Bar "Bar"
 g1_:Cd K mg c.Joint "Joint"
 l_:Cd K mg c.Numbers "Numbers"
 o_:Cd K mg c.Pocket "Pocket"
 d_:Cd K mg c.Web "Web"
 m_:NoAttr K c.Numbers "points"
 q_:NoAttr K c.Pocket "door"
 p_:NoAttr K c.Pocket "points"
 h_:NoAttr K c.Web "pairs"
 e_:NoAttr K c.Web "points"
 j_:mg "all" = none
 k_:mg "any" = none
 a_:mg "bool" = none
 r_:mg "enumerate" = none
 c_:mg "int" = none
 b_:mg "isinstance" = none
 i_:mg "len" = none
 f_:mg "list" = none
 x_:mg "max" = none
 y_:mg "min" = none
 g_:mg "range" = none
 w_:mg "reversed" = none
 n_:mg "sorted" = none
 z_:mg "sum" = none
 s_:mg "tuple" = none
 t_:∃ t,mg "MOST_POINTS" = some (.int 8 t)
 u_:∃ t,mg "MOST_TIES" = some (.int 14 t)
 i1_:∀ fs,TyD K (.obj c.Numbers fs) (.ref c.Numbers)
 j1_:∀ fs,TyD K (.obj c.Pocket fs) (.ref c.Pocket)
 k1_:∀ fs,TyD K (.obj c.Web fs) (.ref c.Web)
 l1_:PySem.W.kitOne K (.ref c.Numbers) (.ref c.Answer)=some true
 m1_:PySem.W.kitOne K (.ref c.Pocket) (.ref c.Answer)=some true
 n1_:PySem.W.kitOne K (.ref c.Web) (.ref c.Answer)=some false
 o1_:PySem.W.kitOne K (.ref c.Numbers) (.ref c.Bar)=some false
 p1_:PySem.W.kitOne K (.ref c.Pocket) (.ref c.Bar)=some false
 q1_:PySem.W.kitOne K (.ref c.Web) (.ref c.Bar)=some false
 r1_:PySem.W.kitOne K (.ref c.Numbers) (.ref c.Joint)=some false
 s1_:PySem.W.kitOne K (.ref c.Pocket) (.ref c.Joint)=some false
 t1_:PySem.W.kitOne K (.ref c.Web) (.ref c.Joint)=some false
 u1_:PySem.W.kitOne K (.ref c.Pocket) (.ref c.Numbers)=some false
 v1_:PySem.W.kitOne K (.ref c.Web) (.ref c.Numbers)=some false
 w1_:PySem.W.kitOne K (.ref c.Numbers) (.ref c.Pocket)=some false
 x1_:PySem.W.kitOne K (.ref c.Web) (.ref c.Pocket)=some false
 y1_:PySem.W.kitOne K (.ref c.Numbers) (.ref c.Web)=some false
 z1_:PySem.W.kitOne K (.ref c.Pocket) (.ref c.Web)=some false
 ne:c.Numbers≠c.Pocket∧c.Numbers≠c.Web∧c.Pocket≠c.Web
 b2_:Fd K mg "is_number" (top 1) ["value"]
 c2_:Fd K mg "has_point" (top 2) ["web", "point"]
 d2_:Fd K mg "are_two_points" (top 3) ["web", "one", "other"]
 e2_:Fd K mg "all_points" (top 4) ["web"]
 f2_:Fd K mg "is_point_set" (top 5) ["web", "points"]
 g2_:Md K c.Web "ties" "Web.ties" (inClass (top 30) 1) ["self"]
 h2_:Fd K mg "points_left_to" (top 6) ["web", "points"]
 i2_:Fd K mg "is_left_by_door" (top 7) ["web", "points", "door"]
 j2_:Fd K mg "reached" (top 8) ["begin", "steps"]
 k2_:Fd K mg "is_tied_both_ways" (top 10) ["web", "points", "place"]
 l2_:Ni K c.Numbers "Numbers.__init__" (inClass (top 14) 0) ["self", "points"]
 m2_:Md K c.Numbers "shows" "Numbers.shows" (inClass (top 14) 1) ["self", "web", "one", "other"]
 n2_:Ni K c.Pocket "Pocket.__init__" (inClass (top 15) 0) ["self", "points", "door"]
 o2_:Md K c.Pocket "shows" "Pocket.shows" (inClass (top 15) 1) ["self", "web", "one", "other"]
 p2_:Fd K mg "steps_of" (top 21) ["web"]
 q2_:Fd K mg "steps_beside" (top 22) ["steps", "point"]
 r2_:Fd K mg "shortest_walk" (top 23) ["steps", "begin", "ends"]
 s2_:Fd K mg "step_and_walk" (top 24) ["step", "walk"]
 t2_:Fd K mg "way_over" (top 25) ["steps", "met", "step"]
 u2_:Fd K mg "is_tie" (top 29) ["value", "points"]
 v2_:Ni K c.Web "Web.__init__" (inClass (top 30) 0) ["self", "points", "ties"]
 w2_:Fd K mg "are_points_of" (top 32) ["web", "one", "other"]
 x2_:Fd K mg "refuse_points" (top 33) ["web", "one", "other"]
 y2_:Fd K mg "points_behind" (top 34) ["web", "one", "other", "door"]
 z2_:Fd K mg "with_way" (top 35) ["row", "points"]
 a3_:Fd K mg "row_between" (top 36) ["web", "one", "other"]
 b3_:Fd K mg "numbered" (top 37) ["web", "one", "other"]
 c3_:Fd K mg "_law_cell_at" (top 39) ["_law_script", "_law_k"]
 d3_:Fd K mg "_law_draw" (top 40) ["_law_cell", "_law_k", "_law_many"]
 e3_:Fd K mg "_law_told" (top 41) ["_law_cell", "_law_least"]
 f3_:Fd K mg "_law_rising" (top 43) ["_law_some", "_law_points"]
 g3_:Fd K mg "_law_numbers" (top 44) ["_law_told_here", "_law_one", "_law_other", "_law_order"]
 h3_:Fd K mg "_law_pocket" (top 45) ["_law_told_here", "_law_one", "_law_other", "_law_some", "_law_door"]
 law:Fl' K mg (top 46)
theorem Txt.go {K:PySem.W.Frag} {mg:Str→Option Value} {aAnswer aBar aJoint aNumbers aPocket aWeb:Addr} (T:Txt K mg ⟨aAnswer,aBar,aJoint,aNumbers,aPocket,aWeb⟩):∃ c,Nonempty (Txt K mg c):=⟨_,⟨T⟩⟩
noncomputable section
variable {P:Program} {w:World} {K:PySem.W.Frag} {mg:Str→Option Value} {base:Heap} {c:CA} (T:Txt K mg c)
theorem K_Answer (T:Txt K mg c):Ka K (c5 c) c.Answer:=bA T.i1_ T.l1_ (bA T.j1_ T.m1_ (bA T.k1_ T.n1_ jc))
theorem K_Bar (T:Txt K mg c):Ka K (h9 c) c.Bar:=bA T.i1_ T.o1_ (bA T.j1_ T.p1_ (bA T.k1_ T.q1_ jc))
theorem K_Joint (T:Txt K mg c):Ka K (ez c) c.Joint:=bA T.i1_ T.r1_ (bA T.j1_ T.s1_ (bA T.k1_ T.t1_ jc))
theorem lg (T:Txt K mg c):Ka K (bO c) c.Numbers:=bA T.i1_ kl (bA T.j1_ T.u1_ (bA T.k1_ T.v1_ jc))
theorem K_Pocket (T:Txt K mg c):Ka K (c6 c) c.Pocket:=bA T.i1_ T.w1_ (bA T.j1_ kl (bA T.k1_ T.x1_ jc))
theorem K_Web (T:Txt K mg c):Ka K (lW c) c.Web:=bA T.i1_ T.y1_ (bA T.j1_ T.z1_ (bA T.k1_ kl jc))
def jC (c:CA):FS:=(aR ((jL (aw cY (aa 0)) (dnot (aw is_bool (aa 0))))))
def bN (c:CA):List D→Option D:=run 1 (jC c)
theorem cK:Ok P w mg base 1 T.b2_.toFb (spD 1 (bN c)):=fD [] fun _ _ _ _ _ _ hr nd=>
 (al (aC ((fH (lP dv T.c_ T.b_) (hJ (de_not (j0 dv T.a_ T.b_)))))))
def jD (c:CA):FS:=(aR (dw oLe oLt (ac (.int 0)) (aa 1) (bh (isC c.Web) "points" (aa 0))))
def cD (c:CA):List D→Option D:=run 2 (jD c)
theorem fT:Ok P w mg base 1 T.c2_.toFb (spD 2 (cD c)):=fD [] fun _ _ _ _ _ _ hr nd=>
 (al (aC (de_chain ke dA af dv (df dv T.d_.cls T.e_))))
def fy (c:CA):FS:=(aR ((jL (aq 2 (cD c) (ab (aa 0) (ab (aa 1) ah))) (jL (aq 2 (cD c) (ab (aa 0) (ab (aa 2) ah))) (ad oNe (aa 1) (aa 2))))))
def aY (c:CA):List D→Option D:=run 3 (fy c)
theorem cL:Ok P w mg base 2 T.d2_.toFb (spD 3 (aY c)):=fD [] fun _ _ _ _ _ _ hr nd=>
 (al (aC ((fH (du (fT T) hr (ae dv (d1 dv))) (fH (du (fT T) hr (ae dv (d1 dv))) (hJ (c_ne dv dv hr)))))))
def iN (c:CA):FS:=(aR (di (ab (bh (isC c.Web) "points" (aa 0)) ah)))
def aX (c:CA):List D→Option D:=run 1 (iN c)
theorem de:Ok P w mg base 1 T.e2_.toFb (spD 1 (aX c)):=fD [] fun _ _ _ _ _ _ hr nd=>
 (al (aC (jx rfl (d1 (df dv T.d_.cls T.e_)) rfl T.f_ rfl T.g_)))
def kq (c:CA):FS:=(aR (ad oEq (aa 1) (bI (aW (aq 1 (aX c) (ab (aa 0) ah))) (ar 0) (aj (ad oIn (aa 0) (aa 1))) (aa 0) 1 [1])))
def eA (c:CA):List D→Option D:=run 2 (kq c)
theorem jN:Ok P w mg base 2 T.f2_.toFb (spD 2 (eA c)):=fD [] fun _ _ _ _ _ _ hr nd=>
 (al (aC (c_eq dv (dc ["point", "points"] (bz (du (de T) hr (d1 dv))) (fun nd _ _ _ _ _=>⟨(gn nd),(fq (t_in dv dv hr)),dv⟩)) hr)))
def kr (c:CA):FS:=(aR (az k6 (ab (bh (isC c.Web) "pairs" (aa 0)) ah)))
def bG (c:CA):List D→Option D:=run 1 (kr c)
theorem gy:Ok P w mg base 1 T.g2_.toFb (spD 1 (bG c)):=fD [] fun _ _ _ _ _ _ hr nd=>
 (al (aC (de_t1 c_list PyProof.Rows.boot_list T.f_ (d1 (df dv T.d_.cls T.h_)))))
def je (c:CA):FS:=(av (sset 2 (bI (aW ((bB c.Web "ties" 1 (bG c) (aa 0) ah))) (ar 0) (aj (ad oNe (ad oIn (ad oIx (aa 0) (ac (.int 0))) (aa 1)) (ad oIn (ad oIx (aa 0) (ac (.int 1))) (aa 1)))) (aa 0) 1 [1])) (dO 2 (aR (bI (aW (aa 2)) (ar 0) eL (dif (aj (ad oIn (ad oIx (aa 0) (ac (.int 0))) (aa 1))) (ad oIx (aa 0) (ac (.int 1))) (ad oIx (aa 0) (ac (.int 0)))) 1 [1]))))
def bp (c:CA):List D→Option D:=run 3 (je c)
theorem eU:Ok P w mg base 2 T.h2_.toFb (spD 2 (bp c)):=fD ["leaving"] fun _ _ _ _ _ _ hr nd=>
 (ak (sc ["tie", "points"] nd (bz ((dm0 T.d_.cls (gy T) hr dv))) (fun nd _ _ _ _ _=>⟨(gn nd),(fq (t_ne (c_in (dx dv af) dv hr) (c_in (dx dv af) dv hr) hr)),dv⟩)) (al (dz (aC (dc ["tie", "points"] (bz dv) (fun nd _ _ _ _ _=>⟨(gn nd),cH,(de_ifExp (t_in (dx dv af) dv hr) (dx dv af) (dx dv af))⟩))))))
def iO (c:CA):FS:=(av (sif ((bo (bf (aj (aq 2 (eA c) (ab (aa 0) (ab (aa 1) ah))))) (aj (ad oLt (az eM (ab (aa 1) ah)) (ac (.int 1)))))) (aR (ac (.bl false))) aE) (av (sif ((bo (bf (aj (aq 2 (cD c) (ab (aa 0) (ab (aa 2) ah))))) (aj (ad oIn (aa 2) (aa 1))))) (aR (ac (.bl false))) aE) (aR (az i9 (ab (bI (aW (aq 2 (bp c) (ab (aa 0) (ab (aa 1) ah)))) (ar 0) eL (ad oEq (aa 0) (aa 1)) 1 [2]) ah)))))
def cM (c:CA):List D→Option D:=run 3 (iO c)
theorem ia:Ok P w mg base 3 T.i2_.toFb (spD 3 (cM c)):=fD [] fun _ _ _ _ _ _ hr nd=>
 (ak (i0 (t_or (bK (br (du (jN T) hr (ae dv (d1 dv))))) (tc2 dA (km T.i_ dv) af)) (al (aC cb))) (ak (i0 (t_or (bK (br (du (fT T) hr (ae dv (d1 dv))))) (t_in dv dv hr)) (al (aC cb))) (al (aC (b_all T.j_ (dc ["point", "door"] (bz (du (eU T) hr (ae dv (d1 dv)))) (fun nd _ _ _ _ _=>⟨(gn nd),cH,(c_eq dv dv hr)⟩)))))))
def lh (c:CA):FS:=(av (sset 2 (cE (ab (aa 0) ah))) (av (sset 3 (ac (.int 0))) (av (cG (aj (ad oLt (aa 3) (az eM (ab (aa 2) ah)))) (av (bW (aW (aa 1)) (ar 4) (sif ((dI (aj (ad oEq (ad oIx (aa 4) (ac (.int 0))) (ad oIx (aa 2) (aa 3)))) (aj (ad oNotIn (ad oIx (aa 4) (ac (.int 1))) (aa 2))))) (dR 2 (ad oIx (aa 4) (ac (.int 1)))) aE)) (jM (·+·) 3 (ac (.int 1)))) 100) (jw 2))))
def dX (c:CA):List D→Option D:=run 5 (lh c)
theorem ku:Ok P w mg base 1 T.j2_.toFb (spD 2 (dX c)):=fD ["found", "place", "step"] fun _ _ _ _ _ _ hr nd=>
 (ak (sA nd (ci (d1 dv))) (ak (sA nd af) (ak (sw (tc2 dA dv (km T.i_ dv)) (ak (sf (bz dv) (gn nd) (al (i0 (t_and (t_eq (dx dv af) (dx dv dv) hr) (t_ni (dx dv af) dv hr)) (al (cX (pv 2) (dx dv af)))))) (al (sg nd af ip_add)))) (al (lG (pv 2))))))
def gR (c:CA):FS:=(av (sset 3 (aq 2 (bp c) (ab (aa 0) (ab (cE (ab (ad oIx (aa 1) (aa 2)) ah)) ah)))) (av (sset 4 (az oAny (ab (bI (aW (aa 3)) (ar 0) eL (ad oIn (aa 0) (bL (aa 1) cB (bM (aa 2)))) 1 [1,2]) ah))) (av (sset 5 (az oAny (ab (bI (aW (aa 3)) (ar 0) eL (ad oIn (aa 0) (bL (aa 1) (bM (ad be (aa 2) (ac (.int 1)))) cB)) 1 [1,2]) ah))) (aR ((jL (aa 4) (aa 5)))))))
def bJ (c:CA):List D→Option D:=run 6 (gR c)
theorem gz:Ok P w mg base 3 T.k2_.toFb (spD 3 (bJ c)):=fD ["tied", "ahead", "behind"] fun _ _ _ _ _ _ hr nd=>
 (ak (sA nd (du (eU T) hr (ae dv (d1 (ci (d1 (dx dv dv))))))) (ak (sA nd (gW (c_any rfl) PyProof.Rows.boot_any T.k_ (d1 (dc ["point", "points", "place"] (bz dv) (fun nd _ _ _ _ _=>⟨(gn nd),cH,(c_in dv (dZ dv fO (dQ dv)) hr)⟩))))) (ak (sA nd (gW (c_any rfl) PyProof.Rows.boot_any T.k_ (d1 (dc ["point", "points", "place"] (bz dv) (fun nd _ _ _ _ _=>⟨(gn nd),cH,(c_in dv (dZ dv (dQ (aV a9 dv af)) fO) hr)⟩))))) (al (aC ((fH dv (hJ dv))))))))
def eB (c:CA):FS:=(ki c.Numbers "points" (eQ (az k6 (ab (aa 1) ah))))
def cy (c:CA):List D→Option (List (Str×D)):=fun ds=>unif fun p=>iK 2 c.Numbers (eB c) ds p
theorem gS:Ok P w mg base 1 T.l2_.toFb (spIN c.Numbers 1 (cy c)):=fI [] fun _ _ _ _ _ _ hr nd=>
 (al (iJ (C:=c.Numbers) (pv 0) (dS (de_t1 c_list PyProof.Rows.boot_list T.f_ (d1 dv))) ⟨T.l_.cls,T.m_⟩))
def gd (c:CA):FS:=(av (sif ((bo (bf (aj (aq 3 (aY c) (ab (aa 1) (ab (aa 2) (ab (aa 3) ah)))))) (aj (ad oNe (az c8 (ab (bh (isC c.Numbers) "points" (aa 0)) ah)) (aq 1 (aX c) (ab (aa 1) ah)))))) (aR (ac (.bl false))) aE) (av (sif ((bo (aj (ad oNe (ad oIx (bh (isC c.Numbers) "points" (aa 0)) (ac (.int 0))) (aa 2))) (aj (ad oNe (ad oIx (bh (isC c.Numbers) "points" (aa 0)) (dun d0 (ac (.int 1)))) (aa 3))))) (aR (ac (.bl false))) aE) (aR (az i9 (ab (bI (kd (ab (ac (.int 1)) (ab (ad fJ (bh (isC c.Web) "points" (aa 1)) (ac (.int 1))) ah))) (ar 0) eL (aq 3 (bJ c) (ab (aa 1) (ab (bh (isC c.Numbers) "points" (aa 2)) (ab (aa 0) ah)))) 1 [1,0]) ah)))))
def aL (c:CA):List D→Option D:=run 4 (gd c)
theorem c7:Ok P w mg base 4 T.m2_.toFb (spD 4 (aL c)):=fD [] fun _ _ _ _ _ _ hr nd=>
 (ak (i0 (t_or (bK (br (du (cL T) hr (ae dv (ae dv (d1 dv)))))) (t_ne (gW mL PyProof.Rows.boot_sorted T.n_ (d1 (df dv T.l_.cls T.m_))) (du (de T) hr (d1 dv)) hr)) (al (aC cb))) (ak (i0 (t_or (t_ne (dx (df dv T.l_.cls T.m_) af) dv hr) (t_ne (dx (df dv T.l_.cls T.m_) (gv af)) dv hr)) (al (aC cb))) (al (aC (b_all T.j_ (dc ["place", "web", "self"] (k5 rfl T.g_ (ae af (d1 (aV gK (df dv T.d_.cls T.e_) af)))) (fun nd _ _ _ _ _=>⟨(gn nd),cH,(du (gz T) hr (ae dv (ae (df dv T.l_.cls T.m_) (d1 dv))))⟩)))))))
def eV (c:CA):FS:=(av (ki c.Pocket "points" (eQ (az k6 (ab (aa 1) ah)))) (ki c.Pocket "door" (eQ (aa 2))))
def b7 (c:CA):List D→Option (List (Str×D)):=fun ds=>unif fun p=>iK 3 c.Pocket (eV c) ds p
theorem ib:Ok P w mg base 1 T.n2_.toFb (spIN c.Pocket 2 (b7 c)):=fI [] fun _ _ _ _ _ _ hr nd=>
 (ak (iJ (C:=c.Pocket) (pv 0) (dS (de_t1 c_list PyProof.Rows.boot_list T.f_ (d1 dv))) ⟨T.o_.cls,T.p_⟩) (al (iJ (C:=c.Pocket) (pv 0) (dS dv) ⟨T.o_.cls,T.q_⟩)))
def gA (c:CA):FS:=(av (sif ((bo (bf (aj (aq 3 (aY c) (ab (aa 1) (ab (aa 2) (ab (aa 3) ah)))))) (bo (aj (ad oIn (aa 2) (bh (isC c.Pocket) "points" (aa 0)))) (aj (ad oIn (aa 3) (bh (isC c.Pocket) "points" (aa 0))))))) (aR (ac (.bl false))) aE) (aR (aq 3 (cM c) (ab (aa 1) (ab (bh (isC c.Pocket) "points" (aa 0)) (ab (bh (isC c.Pocket) "door" (aa 0)) ah))))))
def aS (c:CA):List D→Option D:=run 4 (gA c)
theorem dD:Ok P w mg base 4 T.o2_.toFb (spD 4 (aS c)):=fD [] fun _ _ _ _ _ _ hr nd=>
 (ak (i0 (t_or3 (bK (br (du (cL T) hr (ae dv (ae dv (d1 dv)))))) (t_in dv (df dv T.o_.cls T.p_) hr) (t_in dv (df dv T.o_.cls T.p_) hr)) (al (aC cb))) (al (aC (du (ia T) hr (ae dv (ae (df dv T.o_.cls T.p_) (d1 (df dv T.o_.cls T.q_))))))))
def nX (c:CA):FS:=(av (sset 1 (cE ah)) (av (bW (ienum (ab ((bB c.Web "ties" 1 (bG c) (aa 0) ah)) ah)) (gtup 2 (eN (ar 2) (eN (ar 3) gnil))) (av (dR 1 (b9 (ab (ad oIx (aa 3) (ac (.int 0))) (ab (ad oIx (aa 3) (ac (.int 1))) (ab (aa 2) ah))))) (dR 1 (b9 (ab (ad oIx (aa 3) (ac (.int 1))) (ab (ad oIx (aa 3) (ac (.int 0))) (ab (aa 2) ah))))))) (jw 1)))
def fU (c:CA):List D→Option D:=run 4 (nX c)
theorem jE:Ok P w mg base 2 T.p2_.toFb (spD 1 (fU c)):=fD ["steps", "place", "tie"] fun _ _ _ _ _ _ hr nd=>
 (ak (sA nd (ci i7)) (ak (sf (di_enum rfl T.r_ (d1 ((dm0 T.d_.cls (gy T) hr dv)))) (g2 (gn nd) (gn nd)) (ak (cX (pv 1) (cW (ae (dx dv af) (ae (dx dv af) (d1 dv))))) (al (cX (pv 1) (cW (ae (dx dv af) (ae (dx dv af) (d1 dv)))))))) (al (lG (pv 1)))))
def kv (c:CA):FS:=(aR (bI (aW (aa 0)) (ar 0) (aj (ad oNotIn (aa 1) (dslT (aa 0) cB (bM (ac (.int 2)))))) (aa 0) 1 [1]))
def cN (c:CA):List D→Option D:=run 2 (kv c)
theorem ge:Ok P w mg base 1 T.q2_.toFb (spD 2 (cN c)):=fD [] fun _ _ _ _ _ _ hr nd=>
 (al (aC (dc ["step", "point"] (bz dv) (fun nd _ _ _ _ _=>⟨(gn nd),(fq (t_ni dv (de_slT dv fO (dQ af)) hr)),dv⟩))))
def dF (c:CA):FS:=(av (sset 3 (cE (ab (b9 (ab (cE (ab (aa 1) ah)) (ab (cE ah) ah))) ah))) (av (sset 4 (cE (ab (aa 1) ah))) (av (sset 5 (ac (.int 0))) (av (cG (aj (ad oLt (aa 5) (az eM (ab (aa 3) ah)))) (av (sset 6 (ad oIx (ad oIx (aa 3) (aa 5)) (ac (.int 0)))) (av (sif (aj (ad oIn (ad oIx (aa 6) (dun d0 (ac (.int 1)))) (aa 2))) (aR (ad oIx (aa 3) (aa 5))) aE) (av (bW (aW (aa 0)) (ar 7) (sif ((dI (aj (ad oEq (ad oIx (aa 7) (ac (.int 0))) (ad oIx (aa 6) (dun d0 (ac (.int 1)))))) (aj (ad oNotIn (ad oIx (aa 7) (ac (.int 1))) (aa 4))))) (av (dR 4 (ad oIx (aa 7) (ac (.int 1)))) (dR 3 (b9 (ab (ad be (aa 6) (cE (ab (ad oIx (aa 7) (ac (.int 1))) ah))) (ab (ad be (ad oIx (ad oIx (aa 3) (aa 5)) (ac (.int 1))) (cE (ab (ad oIx (aa 7) (ac (.int 2))) ah))) ah))))) aE)) (jM (·+·) 5 (ac (.int 1)))))) 100) (aR (ac .non))))))
def cp (c:CA):List D→Option D:=run 8 (dF c)
theorem jf:Ok P w mg base 1 T.r2_.toFb (spD 3 (cp c)):=fD ["walks", "met", "place", "points", "step"] fun _ _ _ _ _ _ hr nd=>
 (ak (sA nd (ci (d1 (cW (ae (ci (d1 dv)) (d1 (ci i7))))))) (ak (sA nd (ci (d1 dv))) (ak (sA nd af) (ak (sw (tc2 dA dv (km T.i_ dv)) (ak (sA nd (dx (dx dv dv) af)) (ak (i0 (t_in (dx dv (gv af)) dv hr) (al (aC (dx dv dv)))) (ak (sf (bz dv) (gn nd) (al (i0 (t_and (t_eq (dx dv af) (dx dv (gv af)) hr) (t_ni (dx dv af) dv hr)) (ak (cX (pv 4) (dx dv af)) (al (cX (pv 3) (cW (ae (aV a9 dv (ci (d1 (dx dv af)))) (d1 (aV a9 (dx (dx dv dv) af) (ci (d1 (dx dv af))))))))))))) (al (sg nd af ip_add)))))) (al (aC de_non))))))
def gf (c:CA):FS:=(iH (ntup (fQ (eQ (ad be (cE (ab (ad oIx (aa 0) (ac (.int 0))) ah)) (ad oIx (aa 1) (ac (.int 0))))) (fQ (eQ (ad be (cE (ab (ad oIx (aa 0) (ac (.int 2))) ah)) (ad oIx (aa 1) (ac (.int 1))))) nanil))))
def cq (c:CA):List D→Option D:=runN 2 (gf c)
theorem jg:Ok P w mg base 1 T.s2_.toFb (spN 2 (cq c)):=fN [] fun _ _ _ _ _ _ hr nd=>
 (al (iI (dn_tup (iG (dS (aV a9 (ci (d1 (dx dv af))) (dx dv af))) (iG (dS (aV a9 (ci (d1 (dx dv af))) (dx dv af))) dna_nil)))))
def nY (c:CA):FS:=(av (sset 3 (aq 3 (cp c) (ab (aq 2 (cN c) (ab (aa 0) (ab (ad oIx (aa 2) (ac (.int 0))) ah))) (ab (ad oIx (aa 2) (ac (.int 1))) (ab (aa 1) ah))))) (iH (nif (aj (ad oIs (aa 3) (ac .non))) (eQ (ac .non)) (f9 2 (cq c) (ab (aa 2) (ab (aa 3) ah))))))
def fV (c:CA):List D→Option D:=runN 4 (nY c)
theorem mV:Ok P w mg base 2 T.t2_.toFb (spN 3 (fV c)):=fN ["walk"] fun _ _ _ _ _ _ hr nd=>
 (ak (sA nd (du (jf T) hr (ae (du (ge T) hr (ae dv (d1 (dx dv af)))) (ae (dx dv af) (d1 dv))))) (al (iI (dn_ifExp (tc2 op_oIs dv de_non) (dS de_non) (nu (jg T) hr (ae dv (d1 dv)))))))
def mW (c:CA):FS:=(av (sif ((bo (bf (aj (aw iC (aa 0)))) (aj (ad oNe (az eM (ab (aa 0) ah)) (ac (.int 2)))))) (aR (ac (.bl false))) aE) (aR ((jL (aq 1 (bN c) (ab (ad oIx (aa 0) (ac (.int 0))) ah)) (jL (aq 1 (bN c) (ab (ad oIx (aa 0) (ac (.int 1))) ah)) (iB oLe oLt oLt (ac (.int 0)) (ad oIx (aa 0) (ac (.int 0))) (ad oIx (aa 0) (ac (.int 1))) (aa 1)))))))
def fz (c:CA):List D→Option D:=run 2 (mW c)
theorem ok_is_tie:Ok P w mg base 2 T.u2_.toFb (spD 2 (fz c)):=fD [] fun _ _ _ _ _ _ hr nd=>
 (ak (i0 (t_or (bK (br (ii_tuple dv T.s_ T.b_))) (t_ne (km T.i_ dv) af hr)) (al (aC cb))) (al (aC ((fH (du (cK T) hr (d1 (dx dv af))) (fH (du (cK T) hr (d1 (dx dv af))) (hJ (de_chain3 ke dA dA af (dx dv af) (dx dv af) dv))))))))
def cO (c:CA):FS:=(av (sif ((bo (bf (aj (aq 1 (bN c) (ab (aa 1) ah)))) (bf (aj (dw oLe oLe (ac (.int 1)) (aa 1) (ac (.int 8))))))) ((fun _=>none)) aE) (av (sif ((bo (bf (aj (aw eP (aa 2)))) (aj (ad oGt (az eM (ab (aa 2) ah)) (ac (.int 14)))))) ((fun _=>none)) aE) (av (sif (bf (aj (az i9 (ab (bI (aW (aa 2)) (ar 0) eL (aq 2 (fz c) (ab (aa 0) (ab (aa 1) ah))) 1 [1]) ah)))) ((fun _=>none)) aE) (av (ki c.Web "points" (eQ (aa 1))) (ki c.Web "pairs" (k9 (aW (aa 2)) (ar 0) eL (ntup (fQ (eQ (ad oIx (aa 0) (ac (.int 0)))) (fQ (eQ (ad oIx (aa 0) (ac (.int 1)))) nanil))) 1 []))))))
def aT (c:CA):List D→Option (List (Str×D)):=fun ds=>unif fun p=>iK 3 c.Web (cO c) ds p
theorem dG:Ok P w mg base 3 T.v2_.toFb (spIN c.Web 2 (aT c)):=fI [] fun _ _ _ _ _ _ hr nd=>
 (ak (i0 (t_or (bK (br (du (cK T) hr (d1 dv)))) (bK (kc ke ke af dv (dk T.t_)))) (al (ip))) (ak (i0 (t_or (bK (br (lQ dv T.f_ T.b_))) (tc2 hV (km T.i_ dv) (dk T.u_))) (al (ip))) (ak (i0 (bK (br (b_all T.j_ (dc ["tie", "points"] (bz dv) (fun nd _ _ _ _ _=>⟨(gn nd),cH,(du (ok_is_tie T) hr (ae dv (d1 dv)))⟩))))) (al (ip))) (ak (iJ (C:=c.Web) (pv 0) (dS dv) ⟨T.d_.cls,T.e_⟩) (al (iJ (C:=c.Web) (pv 0) (nc ["tie"] (bz dv) (fun nd _ _ _ _ _=>⟨(gn nd),cH,(dn_tup (iG (dS (dx dv af)) (iG (dS (dx dv af)) dna_nil)))⟩)) ⟨T.d_.cls,T.h_⟩))))))
def gg (c:CA):FS:=(aR ((jL (aw (lW c) (aa 0)) (jL (aq 1 (bN c) (ab (aa 1) ah)) (jL (aq 1 (bN c) (ab (aa 2) ah)) (aq 3 (aY c) (ab (aa 0) (ab (aa 1) (ab (aa 2) ah)))))))))
def cr (c:CA):List D→Option D:=run 3 (gg c)
theorem jh:Ok P w mg base 3 T.w2_.toFb (spD 3 (cr c)):=fD [] fun _ _ _ _ _ _ hr nd=>
 (al (aC ((fH (ii_c dv T.d_ (K_Web T) T.b_) (fH (du (cK T) hr (d1 dv)) (fH (du (cK T) hr (d1 dv)) (hJ (du (cL T) hr (ae dv (ae dv (d1 dv)))))))))))
def gh (c:CA):FS:=(sif (bf (aj (aq 3 (cr c) (ab (aa 0) (ab (aa 1) (ab (aa 2) ah)))))) ((fun _=>none)) aE)
def cw (c:CA):List D→Option D:=run 3 (gh c)
theorem ji:Ok P w mg base 4 T.x2_.toFb (spD 3 (cw c)):=fD [] fun _ _ _ _ _ _ hr nd=>
 (al (i0 (bK (br (du (jh T) hr (ae dv (ae dv (d1 dv)))))) (al (ip))))
def jO (c:CA):FS:=(av (sset 4 (aq 2 (cN c) (ab (aq 1 (fU c) (ab (aa 0) ah)) (ab (aa 3) ah)))) (av (sset 5 (ad be (ad be (aq 2 (dX c) (ab (aa 1) (ab (aa 4) ah))) (aq 2 (dX c) (ab (aa 2) (ab (aa 4) ah)))) (cE (ab (aa 3) ah)))) (aR (bI (aW (aq 1 (aX c) (ab (aa 0) ah))) (ar 0) (aj (ad oNotIn (aa 0) (aa 1))) (aa 0) 1 [5]))))
def bS (c:CA):List D→Option D:=run 6 (jO c)
theorem jj:Ok P w mg base 3 T.y2_.toFb (spD 4 (bS c)):=fD ["steps", "met"] fun _ _ _ _ _ _ hr nd=>
 (ak (sA nd (du (ge T) hr (ae (du (jE T) hr (d1 dv)) (d1 dv)))) (ak (sA nd (aV a9 (aV a9 (du (ku T) hr (ae dv (d1 dv))) (du (ku T) hr (ae dv (d1 dv)))) (ci (d1 dv)))) (al (aC (dc ["point", "met"] (bz (du (de T) hr (d1 dv))) (fun nd _ _ _ _ _=>⟨(gn nd),(fq (t_ni dv dv hr)),dv⟩))))))
def eD (m:List D→Option D) (c:CA):FS:=(av (sif (aj (ad oGt (ad dB (aa 0) (ad oIx (aa 1) (ac (.int 0)))) (ad dB (aa 0) (ad oIx (aa 1) (dun d0 (ac (.int 1))))))) (aR (aq 2 (m) (ab (aa 0) (ab (lc (aa 1)) ah)))) aE) (av (sset 2 (ad be (ad dB (aa 0) (ad oIx (aa 1) (ac (.int 0)))) (ac (.int 1)))) (aR (ad be (ad be (bL (aa 0) cB (bM (aa 2))) (bL (aa 1) (bM (ac (.int 1))) (bM (dun d0 (ac (.int 1)))))) (bL (aa 0) (bM (aa 2)) cB)))))
def gB (c:CA):List D→Option D:=run 3 (eD (fun _=>none) c)
def eE (c:CA):List D→Option D:=run 3 (eD (gB c) c)
theorem iP {k:Nat} {m:List D→Option D} (G:Ok P w mg base k T.z2_.toFb (spD 2 m)):Ok P w mg base (k+1) T.z2_.toFb (spD 2 (run 3 (eD m c))):=fD ["place"] fun _ _ _ _ _ _ hr nd=>
 (ak (i0 (tc2 hV (j3 dv (dx dv af)) (j3 dv (dx dv (gv af)))) (al (aC (du G hr (ae dv (d1 (d_lrev dv T.f_ T.w_))) (Nat.le_refl _))))) (ak (sA nd (aV a9 (j3 dv (dx dv af)) af)) (al (aC (aV a9 (aV a9 (dZ dv fO (dQ dv)) (dZ dv (dQ af) (dQ (gv af)))) (dZ dv (dQ dv) fO))))))
theorem mX:Ok P w mg base 2 T.z2_.toFb (spD 2 (eE c)):=iP T (iP T ok_none)
def gZ (c:CA):FS:=(av (sset 3 (cE (ab (aa 1) (ab (aa 2) ah)))) (av (sset 4 (aq 1 (fU c) (ab (aa 0) ah))) (av (cG (aj (ad oLt (az eM (ab (aa 3) ah)) (bh (isC c.Web) "points" (aa 0)))) (av (sset 5 (ad oIx (bI (aW (aa 4)) (ar 0) ((dI (aj (ad oIn (ad oIx (aa 0) (ac (.int 0))) (aa 1))) (aj (ad oNotIn (ad oIx (aa 0) (ac (.int 1))) (aa 1))))) (aa 0) 1 [3]) (ac (.int 0)))) (dO 5 (dO 3 (sset 3 (aq 2 (eE c) (ab (aa 3) (ab (ad oIx (dnw (f9 3 (fV c) (ab (aa 4) (ab (aa 3) (ab (aa 5) ah))))) (ac (.int 0))) ah))))))) 100) (jw 3))))
def dg (c:CA):List D→Option D:=run 6 (gZ c)
theorem kx:Ok P w mg base 3 T.a3_.toFb (spD 3 (dg c)):=fD ["row", "steps", "first"] fun _ _ _ _ _ _ hr nd=>
 (ak (sA nd (ci (ae dv (d1 dv)))) (ak (sA nd (du (jE T) hr (d1 dv))) (ak (sw (tc2 dA (km T.i_ dv) (df dv T.d_.cls T.e_)) (ak (sA nd (dx (dc ["step", "row"] (bz dv) (fun nd _ _ _ _ _=>⟨(gn nd),(fq (t_and (t_in (dx dv af) dv hr) (t_ni (dx dv af) dv hr))),dv⟩)) af)) (al (dz (dz (sA nd (du (mX T) hr (ae dv (d1 (dx (de_dn (nu (mV T) hr (ae dv (ae dv (d1 dv))))) af)))))))))) (al (lG (pv 3))))))
def nZ (c:CA):FS:=(av (sdrop (aq 3 (cw c) (ab (aa 0) (ab (aa 1) (ab (aa 2) ah))))) (av (bW (aW (aq 1 (aX c) (ab (aa 0) ah))) (ar 3) (av (sset 4 (aq 4 (bS c) (ab (aa 0) (ab (aa 1) (ab (aa 2) (ab (aa 3) ah)))))) (sif (aj (ad oGt (az eM (ab (aa 4) ah)) (ac (.int 0)))) (iH (dl c.Pocket 2 (b7 c) (ab (aa 4) (ab (aa 3) ah)))) aE))) (iH (dl c.Numbers 1 (cy c) (ab (aq 3 (dg c) (ab (aa 0) (ab (aa 1) (ab (aa 2) ah)))) ah)))))
def eG (c:CA):List D→Option D:=runN 5 (nZ c)
theorem mY:Ok P w mg base 5 T.b3_.toFb (spN 3 (eG c)):=fN ["door", "points"] fun _ _ _ _ _ _ hr nd=>
 (ak (ds_drop (du (ji T) hr (ae dv (ae dv (d1 dv))))) (ak (sf (bz (du (de T) hr (d1 dv))) (gn nd) (ak (sA nd (du (jj T) hr (ae dv (ae dv (ae dv (d1 dv)))))) (al (i0 (tc2 hV (km T.i_ dv) af) (al (iI (nk T.o_ (ib T) hr (ae dv (d1 dv))))))))) (al (iI (nk T.l_ (gS T) hr (d1 (du (kx T) hr (ae dv (ae dv (d1 dv))))))))))
noncomputable def bT (c:CA) (K:PySem.W.Frag):FS:=(av (sif (aj (ad oLt (aa 1) (dlenS K 0))) (aR (dixS K 0 (aa 1))) aE) (aR (ac (.int 0))))
noncomputable def aD (c:CA) (K:PySem.W.Frag):List Int→Int→Option Int:=runS 2 K (bT c K)
theorem cP:Ok P w mg base 1 T.c3_.toFb (spS K (aD c K)):=fS [] fun _ _ _ _ _ _ hr nd=>
 (ak (i0 (tc2 dA dv (de_lenS (pv 0) (by rfl) T.i_)) (al (aC (de_ixS (pv 0) dv (fun _ _=>rfl))))) (al (aC af)))
def n4 (c:CA):FS:=(av (sset 3 (b9 (ab (ac (.int 1000003)) (ab (ac (.int 1000033)) (ab (ac (.int 1000037)) (ab (ac (.int 1000039)) (ab (ac (.int 1000081)) (ab (ac (.int 1000099)) (ab (ac (.int 1000117)) (ab (ac (.int 1000121)) (ab (ac (.int 1000133)) (ab (ac (.int 1000151)) (ab (ac (.int 1000159)) (ab (ac (.int 1000171)) (ab (ac (.int 1000183)) (ab (ac (.int 1000187)) (ab (ac (.int 1000193)) (ab (ac (.int 1000199)) ah)))))))))))))))))) (aR (ad oMod (ad oMod (ad be (ad bX (aa 0) (ac (.int 48271))) (ad bX (aa 1) (ac (.int 69621)))) (ad oIx (aa 3) (ad oMod (aa 1) (ac (.int 16))))) (aa 2))))
def aB (c:CA):List D→Option D:=run 4 (n4 c)
theorem bn:Ok P w mg base 1 T.d3_.toFb (spD 3 (aB c)):=fD ["_law_primes"] fun _ _ _ _ _ _ hr nd=>
 (ak (sA nd (cW (ae af (ae af (ae af (ae af (ae af (ae af (ae af (ae af (ae af (ae af (ae af (ae af (ae af (ae af (ae af (d1 af)))))))))))))))))) (al (aC (aV fM (aV fM (aV a9 (aV dP dv af) (aV dP dv af)) (dx dv (aV fM dv af))) dv))))
def n5 (c:CA):FS:=(av (sset 2 (bu gV (ab (aa 1) (ab (ad oIx (b9 (ab (ac (.int 4)) (ab (ac (.int 5)) (ab (ac (.int 3)) (ab (ac (.int 6)) (ab (ac (.int 2)) (ab (ac (.int 7)) (ab (ac (.int 1)) (ab (ac (.int 8)) ah))))))))) (aq 3 (aB c) (ab (aa 0) (ab (ac (.int 1)) (ab (ac (.int 8)) ah))))) ah)))) (av (sset 3 (aq 3 (aB c) (ab (aa 0) (ab (ac (.int 2)) (ab (ac (.int 4)) ah))))) (av (sset 4 (cE ah)) (av (sset 5 (ad oIx (b9 (ab (ac (.int 1)) (ab (ac (.int 3)) (ab (ac (.int 5)) (ab (ac (.int 7)) ah))))) (aq 3 (aB c) (ab (aa 0) (ab (ac (.int 3)) (ab (ac (.int 4)) ah)))))) (av (sif ((dI (aj (ad oEq (ad oMod (aa 2) (aa 5)) (ac (.int 0)))) (aj (ad oGt (aa 5) (ac (.int 1)))))) (sset 5 (ac (.int 1))) aE) (av (sif ((dI (aj (ad oGt (aa 3) (ac (.int 0)))) (aj (ad oGt (aa 2) (ac (.int 1)))))) (bW (f8 (ab (ad be (ad fJ (aa 2) (ac (.int 1))) (bu ft (ab (ad fJ (aa 3) (ac (.int 1))) (ab (ac (.int 1)) ah)))) ah)) (ar 6) (av (iA 7 8 (ad oMod (ad bX (aa 6) (aa 5)) (aa 2)) (ad oMod (ad bX (ad be (aa 6) (ac (.int 1))) (aa 5)) (aa 2))) (dR 4 (b9 (ab (bu ft (ab (aa 7) (ab (aa 8) ah))) (ab (bu gV (ab (aa 7) (ab (aa 8) ah))) ah)))))) aE) (av (sset 9 (ad oIx (b9 (ab (ac (.int 9)) (ab (ac (.int 4)) ah))) (bu ft (ab (aa 3) (ab (ac (.int 1)) ah))))) (av (sif (aj (ad oEq (aq 3 (aB c) (ab (aa 0) (ab (ac (.int 8)) (ab (ac (.int 4)) ah)))) (ac (.int 0)))) (sset 9 (ac (.int 15))) aE) (av (dO 9 (bW (f8 (ab (aq 3 (aB c) (ab (aa 0) (ab (ac (.int 4)) (ab (aa 9) ah)))) ah)) (ar 6) (av (sset 7 (aq 3 (aB c) (ab (ad bX (ad be (aa 0) (ad bX (ac (.int 977)) (aa 6))) (ad be (aa 6) (ac (.int 3)))) (ab (ac (.int 5)) (ab (aa 2) ah))))) (av (sset 8 (aq 3 (aB c) (ab (ad bX (ad be (aa 0) (ad bX (ac (.int 31)) (aa 6))) (ad be (aa 6) (ac (.int 5)))) (ab (ac (.int 6)) (ab (aa 2) ah))))) (sif (aj (ad oNe (aa 7) (aa 8))) (dR 4 (b9 (ab (bu ft (ab (aa 7) (ab (aa 8) ah))) (ab (bu gV (ab (aa 7) (ab (aa 8) ah))) ah)))) aE))))) (av (sif (aj (ad oEq (aq 3 (aB c) (ab (aa 0) (ab (ac (.int 7)) (ab (ac (.int 2)) ah)))) (ac (.int 0)))) (sset 4 (drev (aa 4) (dun d0 (ac (.int 1))))) aE) (aR (b9 (ab (aa 2) (ab (bL (aa 4) cB (bM (ac (.int 14)))) ah))))))))))))))
def fW (c:CA):List D→Option D:=run 10 (n5 c)
theorem mZ:Ok P w mg base 2 T.e3_.toFb (spD 2 (fW c)):=fD ["_law_points", "_law_kind", "_law_ties", "_law_turn", "_law_k", "_law_one", "_law_other", "_law_most"] fun _ _ _ _ _ _ hr nd=>
 (ak (sA nd (kg (c_max2 rfl) PyProof.Rows.boot_max T.x_ (ae dv (d1 (dx (cW (ae af (ae af (ae af (ae af (ae af (ae af (ae af (d1 af))))))))) (du (bn T) hr (ae dv (ae af (d1 af))))))))) (ak (sA nd (du (bn T) hr (ae dv (ae af (d1 af))))) (ak (sA nd (ci i7)) (ak (sA nd (dx (cW (ae af (ae af (ae af (d1 af))))) (du (bn T) hr (ae dv (ae af (d1 af)))))) (ak (i0 (t_and (t_eq (aV fM dv dv) af hr) (tc2 hV dv af)) (al (sA nd af))) (ak (i0 (t_and (tc2 hV dv af) (tc2 hV dv af)) (al (sf (ir T.g_ (aV a9 (aV gK dv af) (kg (lH rfl) PyProof.Rows.boot_min T.y_ (ae (aV gK dv af) (d1 af))))) (gn nd) (ak (ds_par rfl nd rfl rfl (by decide) rfl rfl (aV fM (aV dP dv dv) dv) (aV fM (aV dP (aV a9 dv af) dv) dv) rfl) (al (cX (pv 4) (cW (ae (kg (lH rfl) PyProof.Rows.boot_min T.y_ (ae dv (d1 dv))) (d1 (kg (c_max2 rfl) PyProof.Rows.boot_max T.x_ (ae dv (d1 dv)))))))))))) (ak (sA nd (dx (cW (ae af (d1 af))) (kg (lH rfl) PyProof.Rows.boot_min T.y_ (ae dv (d1 af))))) (ak (i0 (t_eq (du (bn T) hr (ae dv (ae af (d1 af)))) af hr) (al (sA nd af))) (ak (dz (sf (ir T.g_ (du (bn T) hr (ae dv (ae af (d1 dv))))) (gn nd) (ak (sA nd (du (bn T) hr (ae (aV dP (aV a9 dv (aV dP af dv)) (aV a9 dv af)) (ae af (d1 dv))))) (ak (sA nd (du (bn T) hr (ae (aV dP (aV a9 dv (aV dP af dv)) (aV a9 dv af)) (ae af (d1 dv))))) (al (i0 (t_ne dv dv hr) (al (cX (pv 4) (cW (ae (kg (lH rfl) PyProof.Rows.boot_min T.y_ (ae dv (d1 dv))) (d1 (kg (c_max2 rfl) PyProof.Rows.boot_max T.x_ (ae dv (d1 dv)))))))))))))) (ak (i0 (t_eq (du (bn T) hr (ae dv (ae af (d1 af)))) af hr) (al (sA nd (de_rev dv (gv af))))) (al (aC (cW (ae dv (d1 (dZ dv fO (dQ af)))))))))))))))))
def lX (c:CA):FS:=(av (sif (bf (aj (aw eP (aa 0)))) (aR (ac (.bl false))) aE) (av (sset 2 (dun d0 (ac (.int 1)))) (av (bW (aW (aa 0)) (ar 3) (av (sif ((bo (aj (aw is_bool (aa 3))) (bo (bf (aj (aw cY (aa 3)))) (bf (aj (dw oLt oLt (aa 2) (aa 3) (aa 1))))))) (aR (ac (.bl false))) aE) (sset 2 (aa 3)))) (aR (ac (.bl true))))))
def fX (c:CA):List D→Option D:=run 4 (lX c)
theorem kO:Ok P w mg base 1 T.f3_.toFb (spD 2 (fX c)):=fD ["_law_last", "_law_point"] fun _ _ _ _ _ _ hr nd=>
 (ak (i0 (bK (br (lQ dv T.f_ T.b_))) (al (aC cb))) (ak (sA nd (gv af)) (ak (sf (bz dv) (gn nd) (ak (i0 (t_or3 (br (j0 dv T.a_ T.b_)) (bK (br (lP dv T.c_ T.b_))) (bK (kc dA dA dv dv dv))) (al (aC cb))) (al (sA nd dv)))) (al (aC cb)))))
def kP (c:CA):FS:=(av (sif ((bo (bf (aj (aw eP (aa 3)))) (bo (aj (ad oNe (az c8 (ab (aa 3) ah)) (di (ab (ad oIx (aa 0) (ac (.int 0))) ah)))) (bo (aj (ad oNe (ad oIx (aa 3) (ac (.int 0))) (aa 1))) (aj (ad oNe (ad oIx (aa 3) (dun d0 (ac (.int 1)))) (aa 2))))))) (aR (ac (.bl false))) aE) (av (sif (aj (az oAny (ab (bI (aW (aa 3)) (ar 0) eL ((dor (aw is_bool (aa 0)) (dnot (aw cY (aa 0))))) 1 []) ah))) (aR (ac (.bl false))) aE) (av (bW (kd (ab (ac (.int 1)) (ab (ad fJ (ad oIx (aa 0) (ac (.int 0))) (ac (.int 1))) ah))) (ar 4) (av (sset 5 (bI (aW (ad oIx (aa 0) (ac (.int 1)))) (ar 0) (aj (ad oIn (ad oIx (aa 1) (aa 2)) (aa 0))) (ad dB (aa 1) (ad fJ (az iM (ab (aa 0) ah)) (ad oIx (aa 1) (aa 2)))) 1 [3,4])) (sif ((bo (aj (ad oEq (aa 5) (cE ah))) (bo (aj (ad oGt (az iz (ab (aa 5) ah)) (aa 4))) (aj (ad oLt (az iw (ab (aa 5) ah)) (aa 4)))))) (aR (ac (.bl false))) aE))) (aR (ac (.bl true))))))
def bU (c:CA):List D→Option D:=run 6 (kP c)
theorem gC:Ok P w mg base 1 T.g3_.toFb (spD 4 (bU c)):=fD ["_law_at", "_law_near"] fun _ _ _ _ _ _ hr nd=>
 (ak (i0 (DW.dt (gU (bK (br (lQ dv T.f_ T.b_))) (gU (t_ne (gW mL PyProof.Rows.boot_sorted T.n_ (d1 dv)) (jx rfl (d1 (dx dv af)) rfl T.f_ rfl T.g_) hr) (gU (t_ne (dx dv af) dv hr) (lF (t_ne (dx dv (gv af)) dv hr)))))) (al (aC cb))) (ak (i0 (br (gW (c_any rfl) PyProof.Rows.boot_any T.k_ (d1 (dc ["_law_point"] (bz dv) (fun nd _ _ _ _ _=>⟨(gn nd),cH,((de_or (j0 dv T.a_ T.b_) (hJ (de_not (lP dv T.c_ T.b_)))))⟩))))) (al (aC cb))) (ak (sf (k5 rfl T.g_ (ae af (d1 (aV gK (dx dv af) af)))) (gn nd) (ak (sc ["_law_tie", "_law_order", "_law_at"] nd (bz (dx dv af)) (fun nd _ _ _ _ _=>⟨(gn nd),(fq (t_in (dx dv dv) dv hr)),(j3 dv (aV gK (gW (c_sumT rfl) PyProof.Rows.boot_sum T.z_ (d1 dv)) (dx dv dv)))⟩)) (al (i0 (t_or3 (t_eq dv (ci i7) hr) (tc2 hV (gW (c_min1 rfl) PyProof.Rows.boot_min T.y_ (d1 dv)) dv) (tc2 dA (gW (c_max1 rfl) PyProof.Rows.boot_max T.x_ (d1 dv)) dv)) (al (aC cb)))))) (al (aC cb)))))
def lY (c:CA):FS:=(av (sif ((bo (aj (aw is_bool (aa 4))) (bo (bf (aj (aw cY (aa 4)))) (bf (aj (dw oLe oLt (ac (.int 0)) (aa 4) (ad oIx (aa 0) (ac (.int 0))))))))) (aR (ac (.bl false))) aE) (av (sif ((bo (bf (aj (aq 2 (fX c) (ab (aa 3) (ab (ad oIx (aa 0) (ac (.int 0))) ah))))) (bo (aj (ad oEq (aa 3) (cE ah))) (bo (aj (ad oIn (aa 1) (aa 3))) (bo (aj (ad oIn (aa 2) (aa 3))) (aj (ad oIn (aa 4) (aa 3)))))))) (aR (ac (.bl false))) aE) (aR (az i9 (ab (bI (aW (ad oIx (aa 0) (ac (.int 1)))) (gtup 2 (eN (ar 0) (eN (ar 1) gnil))) eL ((dor (ad oEq (ad oIn (aa 0) (aa 3)) (ad oIn (aa 1) (aa 3))) (ad oIn (aa 2) (b9 (ab (aa 0) (ab (aa 1) ah)))))) 2 [4,3]) ah)))))
def cf (c:CA):List D→Option D:=run 5 (lY c)
theorem g0:Ok P w mg base 2 T.h3_.toFb (spD 5 (cf c)):=fD [] fun _ _ _ _ _ _ hr nd=>
 (ak (i0 (t_or3 (br (j0 dv T.a_ T.b_)) (bK (br (lP dv T.c_ T.b_))) (bK (kc ke dA af dv (dx dv af)))) (al (aC cb))) (ak (i0 (DW.dt (gU (bK (br (du (kO T) hr (ae dv (d1 (dx dv af)))))) (gU (t_eq dv (ci i7) hr) (gU (t_in dv dv hr) (gU (t_in dv dv hr) (lF (t_in dv dv hr))))))) (al (aC cb))) (al (aC (b_all T.j_ (dc ["_law_first", "_law_second", "_law_door", "_law_some"] (bz (dx dv af)) (fun nd _ _ _ _ _=>⟨(g2 (gn nd) (gn nd)),cH,((de_or (c_eq (c_in dv dv hr) (c_in dv dv hr) hr) (hJ (c_in dv (cW (ae dv (d1 dv))) hr))))⟩)))))))
noncomputable def F_law (c:CA) (K:PySem.W.Frag):FS:=(av (sset 1 (aq 2 (fW c) (ab (ad be (cj K 0 (aD c K) (ac (.int 0))) (ad bX (ac (.int 31)) (cj K 0 (aD c K) (ac (.int 1))))) (ab (ac (.int 2)) ah)))) (av (iA 2 3 (dnw (dl c.Web 2 (aT c) (ab (ad oIx (aa 1) (ac (.int 0))) (ab (ad oIx (aa 1) (ac (.int 1))) ah)))) (b9 (ab (ad oIx (aa 1) (ac (.int 0))) (ab (bL (ad oIx (aa 1) (ac (.int 1))) (bM (ac (.int 1))) cB) ah)))) (av (bW (f8 (ab (ac (.int 2)) ah)) (ar 4) (av (sset 5 (aq 3 (aB c) (ab (cj K 0 (aD c K) (ad be (ac (.int 2)) (aa 4))) (ab (ac (.int 1)) (ab (ad oIx (aa 1) (ac (.int 0))) ah))))) (av (sset 6 (ad oMod (ad be (ad be (aa 5) (ac (.int 1))) (aq 3 (aB c) (ab (cj K 0 (aD c K) (ad be (ac (.int 2)) (aa 4))) (ab (ac (.int 2)) (ab (ad fJ (ad oIx (aa 1) (ac (.int 0))) (ac (.int 1))) ah))))) (ad oIx (aa 1) (ac (.int 0))))) (bW (f8 (ab (ac (.int 2)) ah)) (ar 7) (av (dO 6 (dO 2 (gX 8 (f9 3 (eG c) (ab (aa 2) (ab (aa 5) (ab (aa 6) ah))))))) (av (fx 8 ((bo (bf (aj (aw (c5 c) (aa 8)))) (aj (ad oEq (aw (bO c) (aa 8)) (aw (c6 c) (aa 8)))))) (aR (ac (.bl false))) aE) (av (fx 8 ((bo (aj (aw (ez c) (aa 8))) (bo (aj (aw (h9 c) (aa 8))) (aj (ad hZ ((eK (bB c.Numbers "shows" 4 (aL c) (aa 8) (ab (aa 2) (ab (aa 5) (ab (aa 6) ah)))) (bB c.Pocket "shows" 4 (aS c) (aa 8) (ab (aa 2) (ab (aa 5) (ab (aa 6) ah)))))) (ac (.bl true))))))) (aR (ac (.bl false))) aE) (av (fx 8 (aj (aw (bO c) (aa 8))) (av (dO 6 (fx 8 (bf (aj (aq 4 (bU c) (ab (aa 1) (ab (aa 5) (ab (aa 6) (ab (eK (bh (isC c.Numbers) "points" (aa 8)) (bh (isC c.Pocket) "points" (aa 8))) ah))))))) (aR (ac (.bl false))) aE)) (dO 6 (dO 3 (iL 8 9 (aq 4 (bU c) (ab (aa 3) (ab (aa 5) (ab (aa 6) (ab (eK (bh (isC c.Numbers) "points" (aa 8)) (bh (isC c.Pocket) "points" (aa 8))) ah))))))))) (dO 6 (fx 8 (bf (aj (aq 5 (cf c) (ab (aa 1) (ab (aa 5) (ab (aa 6) (ab (eK (bh (isC c.Numbers) "points" (aa 8)) (bh (isC c.Pocket) "points" (aa 8))) (ab (bh (isC c.Pocket) "door" (aa 8)) ah)))))))) (aR (ac (.bl false))) (dO 6 (dO 3 (iL 8 9 (aq 5 (cf c) (ab (aa 3) (ab (aa 5) (ab (aa 6) (ab (eK (bh (isC c.Numbers) "points" (aa 8)) (bh (isC c.Pocket) "points" (aa 8))) (ab (bh (isC c.Pocket) "door" (aa 8)) ah)))))))))))) (av (fx 8 (aj (ad oNe ((eK (bB c.Numbers "shows" 4 (aL c) (aa 8) (ab (dnw (dl c.Web 2 (aT c) (ab (ad oIx (aa 3) (ac (.int 0))) (ab (ad oIx (aa 3) (ac (.int 1))) ah)))) (ab (aa 5) (ab (aa 6) ah)))) (bB c.Pocket "shows" 4 (aS c) (aa 8) (ab (dnw (dl c.Web 2 (aT c) (ab (ad oIx (aa 3) (ac (.int 0))) (ab (ad oIx (aa 3) (ac (.int 1))) ah)))) (ab (aa 5) (ab (aa 6) ah)))))) (aa 9))) (aR (ac (.bl false))) aE) (av (salt (ga 8 ([]++[.f c.Numbers "points"]) (aa 5)) (ga 8 ([]++[.f c.Pocket "points"]) (aa 5))) (fx 8 (aj (ad hZ ((eK (bB c.Numbers "shows" 4 (aL c) (aa 8) (ab (aa 2) (ab (aa 5) (ab (aa 6) ah)))) (bB c.Pocket "shows" 4 (aS c) (aa 8) (ab (aa 2) (ab (aa 5) (ab (aa 6) ah)))))) (ac (.bl false)))) (aR (ac (.bl false))) aE))))))))))) (aR (ad oEq ((bB c.Web "ties" 1 (bG c) (aa 2) ah)) (ad oIx (aa 1) (ac (.int 1))))))))
noncomputable def m_law (c:CA) (K:PySem.W.Frag):List Int→Option D:=runL 10 K (F_law c K)
theorem ok_law:Ok P w mg base 6 T.law.toFb (spL K (m_law c K)):=fL ["_law_told_here", "_law_web", "_law_less", "_law_at", "_law_one", "_law_other", "_law_again", "_law_found", "_law_due"] fun _ _ _ _ _ _ hr nd=>
 (ak (sA nd (du (mZ T) hr (ae (aV a9 (duS (cP T) hr (pv 0) af) (aV dP af (duS (cP T) hr (pv 0) af))) (d1 af)))) (ak (ds_par rfl nd rfl rfl (by decide) rfl rfl (de_dn (nk T.d_ (dG T) hr (ae (dx dv af) (d1 (dx dv af))))) (cW (ae (dx dv af) (d1 (dZ (dx dv af) (dQ af) fO)))) rfl) (ak (sf (ir T.g_ af) (gn nd) (ak (sA nd (du (bn T) hr (ae (duS (cP T) hr (pv 0) (aV a9 af dv)) (ae af (d1 (dx dv af)))))) (ak (sA nd (aV fM (aV a9 (aV a9 dv af) (du (bn T) hr (ae (duS (cP T) hr (pv 0) (aV a9 af dv)) (ae af (d1 (aV gK (dx dv af) af)))))) (dx dv af))) (al (sf (ir T.g_ af) (gn nd) (ak (dz (dz (stN nd (nu (mY T) hr (ae dv (ae dv (d1 dv))))))) (ak (iB0 (t_or (bK (br (ii_c dv T.c1_ (K_Answer T) T.b_))) (t_eq (ii_c dv T.l_ (lg T) T.b_) (ii_c dv T.o_ (K_Pocket T) T.b_) hr)) (al (aC cb))) (ak (iB0 (t_or3 (br (ii_c dv T.g1_ (K_Joint T) T.b_)) (br (ii_c dv T.e1_ (K_Bar T) T.b_)) (tc2 lb ((hR (dm T.l_.cls (c7 T) hr dv (ae dv (ae dv (d1 dv)))) (dm T.o_.cls (dD T) hr dv (ae dv (ae dv (d1 dv)))))) cb)) (al (aC cb))) (ak (ds_ifB (br (ii_c dv T.l_ (lg T) T.b_)) (ak (dz (iB0 (bK (br (du (gC T) hr (ae dv (ae dv (ae dv (d1 (hR (df dv T.l_.cls T.m_) (df dv T.o_.cls T.p_))))))))) (al (aC cb)))) (al (dz (dz (stB nd (du (gC T) hr (ae dv (ae dv (ae dv (d1 (hR (df dv T.l_.cls T.m_) (df dv T.o_.cls T.p_)))))))))))) (al (dz (ds_ifB (bK (br (du (g0 T) hr (ae dv (ae dv (ae dv (ae (hR (df dv T.l_.cls T.m_) (df dv T.o_.cls T.p_)) (d1 (df dv T.o_.cls T.q_))))))))) (al (aC cb)) (al (dz (dz (stB nd (du (g0 T) hr (ae dv (ae dv (ae dv (ae (hR (df dv T.l_.cls T.m_) (df dv T.o_.cls T.p_)) (d1 (df dv T.o_.cls T.q_))))))))))))))) (ak (iB0 (t_ne ((hR (dm T.l_.cls (c7 T) hr dv (ae (de_dn (nk T.d_ (dG T) hr (ae (dx dv af) (d1 (dx dv af))))) (ae dv (d1 dv)))) (dm T.o_.cls (dD T) hr dv (ae (de_dn (nk T.d_ (dG T) hr (ae (dx dv af) (d1 (dx dv af))))) (ae dv (d1 dv)))))) dv hr) (al (aC cb))) (ak (ds_alt (kj (dp_fld (C:=c.Numbers) (dp_var (pv 8)) ⟨T.l_.cls,T.m_⟩) dv) (kj (dp_fld (C:=c.Pocket) (dp_var (pv 8)) ⟨T.o_.cls,T.p_⟩) dv)) (al (iB0 (tc2 lb ((hR (dm T.l_.cls (c7 T) hr dv (ae dv (ae dv (d1 dv)))) (dm T.o_.cls (dD T) hr dv (ae dv (ae dv (d1 dv)))))) cb) (al (aC cb))))))))))))))) (al (aC (c_eq ((dm0 T.d_.cls (gy T) hr dv)) (dx dv af) hr))))))
end
end Pg
end
section
set_option linter.all false
set_option Elab.async false
set_option maxRecDepth 100000
namespace Pg
open PySem PySem.Spec L2 Ew Mx
variable (c:CA)
theorem bH:big=100000:=rfl
@[simp] theorem eW (k:DSt→Option Res) (δ:DSt):Res.loop k (.nx δ)=k δ:=rfl
@[simp] theorem loop_rt (k:DSt→Option Res) (r:R):Res.loop k (.rt r)=some (.rt r):=rfl
section
variable {P:Type} [DecidableEq P] (A:Enc P)
def li:FS:=sif ((dI (aj (ad oEq (ad oIx (aa 4) (ac (.int 0))) (ad oIx (aa 2) (aa 3)))) (aj (ad oNotIn (ad oIx (aa 4) (ac (.int 1))) (aa 2))))) (dR 2 (ad oIx (aa 4) (ac (.int 1)))) aE
theorem ky (hA:A.k≤15) {σ:Type} (es:σ→D) (pr:σ→P×P) (hes:∀ s,∃ rest,es s=.tup (A.e (pr s).1::A.e (pr s).2::rest)) {e0 e1:Option E} {k:Nat} {p:P} :
  ∀ (L:List σ) (f:List P) (x:Option E),f[k]?=some p→f.length+L.length≤1000→
  ∃ x',bC (ar 4) li (L.map es) [e0,e1,some (.ow (f.map A.e)),some (.sh (.int k)),x]=some (.nx [e0,e1,some (.ow ((gx (L.map pr) p f).map A.e)),some (.sh (.int k)),x'])
 | [],f,x,_,_=>⟨x,rfl⟩
 | s::L,f,x,hk,hl=>by
  obtain ⟨rest,er⟩:=hes s
  have hk2:(f.map A.e)[k]?=some (A.e p):=by rw [List.getElem?_map,hk];rfl
  have hb:li [e0,e1,some (.ow (f.map A.e)),some (.sh (.int k)),some (.sh (es s))]=some (.nx [e0,e1,some (.ow ((dC p f (pr s)).map A.e)),some (.sh (.int k)),some (.sh (es s))]):=by
   unfold li dC
   rw [er]
   simp only [bQ,lK,cI,dbin_e,fP,kh,List.getElem?_cons_zero,List.getElem?_cons_succ,Option.bind_some,bm,view_bw,oIx_t,oIx_l,eT,gc,atIn,hk2,Option.map_some,A.oEq hA,lM,A.oNotIn hA]
   by_cases h1:(pr s).1=p
   ·
    by_cases h2:(pr s).2∈f
    ·
     simp [h1,h2]
    ·
     have:f.length≤big:=by rw [bH];simp at hl;omega
     simp [h1,h2,dR,gc,this]
   ·
    simp [h1]
  obtain ⟨x',ih⟩:=ky hA es pr hes (e0:=e0) (e1:=e1) (k:=k) (p:=p) L (dC p f (pr s)) (some (.sh (es s))) (by
   unfold dC
   split
   ·
    rw [List.getElem?_append_left]
    ·
     exact hk
    ·
     exact (List.getElem?_eq_some_iff.mp hk).1
   ·
    exact hk) (by
   unfold dC
   simp at hl
   split
   ·
    simp;omega
   ·
    omega)
  refine ⟨x',?_⟩
  rw [List.map_cons]
  unfold bC
  have hg:ar 4 (es s) [e0,e1,some (.ow (f.map A.e)),some (.sh (.int k)),x]=some [e0,e1,some (.ow (f.map A.e)),some (.sh (.int k)),some (.sh (es s))]:=rfl
  rw [hg]
  show (li _).bind _=_
  rw [hb]
  exact ih
def whileR (n:Nat):FS:=cG (aj (ad oLt (aa 3) (az eM (ab (aa 2) ah)))) (av (bW (aW (aa 1)) (ar 4) li) (jM (·+·) 3 (ac (.int 1)))) n
theorem g4 (hA:A.k≤15) {σ:Type} (es:σ→D) (pr:σ→P×P) (hes:∀ s,∃ rest,es s=.tup (A.e (pr s).1::A.e (pr s).2::rest)) {e0:Option E} (L:List σ) (b:P) (hL:L.length≤100) :
  ∀ (n k:Nat) (f:List P) (x:Option E),RInv (L.map pr) b f→k≤f.length→L.length+2≤n+k→
  ∃ k' x',whileR n [e0,some (.sh (.lst (L.map es))),some (.ow (f.map A.e)),some (.sh (.int k)),x]=some (.nx [e0,some (.sh (.lst (L.map es))),some (.ow ((jA (L.map pr) n k f).map A.e)),k',x'])
 | 0,k,f,x,I,hk,hn=>by
  have h2:=List.Nodup.length_le_of_subset (l₂:=b::(L.map pr).map (·.2)) I.nd (by
   intro p hp
   rcases I.sub p hp with e | ⟨s,hs,e⟩
   ·
    simp [e]
   ·
    simp only [List.mem_cons,List.mem_map];exact .inr ⟨s,List.mem_map.1 hs,e⟩)
  simp at h2
  omega
 | n+1,k,f,x,I,hk,hn=>by
  have hfl:f.length≤L.length+1:=by
   have h2:=List.Nodup.length_le_of_subset (l₂:=b::(L.map pr).map (·.2)) I.nd (by
    intro p hp
    rcases I.sub p hp with e | ⟨s,hs,e⟩
    ·
     simp [e]
    ·
     simp only [List.mem_cons,List.mem_map];exact .inr ⟨s,List.mem_map.1 hs,e⟩)
   simpa using h2
  unfold whileR cG
  have ht:(aj (ad oLt (aa 3) (az eM (ab (aa 2) ah)))) [e0,some (.sh (.lst (L.map es))),some (.ow (f.map A.e)),some (.sh (.int k)),x]=some (decide (k<f.length)):=by
   simp
  rw [ht]
  simp only [Option.bind_some]
  cases hp:f[k]? with
  | none=>
   have:¬k<f.length:=by rw [List.getElem?_eq_none_iff] at hp;omega
   refine ⟨some (.sh (.int k)),x,?_⟩
   rw [if_neg (by simpa using this)]
   unfold jA
   rw [hp]
  | some p=>
   have hk2:k<f.length:=(List.getElem?_eq_some_iff.mp hp).1
   rw [if_pos (by simpa using hk2)]
   obtain ⟨x',hin⟩:=ky A hA es pr hes (e0:=e0) (e1:=some (.sh (.lst (L.map es)))) (k:=k) (p:=p) L f x hp (by omega)
   obtain ⟨i1,⟨e1,j1⟩,i3⟩:=jd (p:=p) (L.map pr) f (fun _ h=>h) I (List.mem_of_getElem? hp)
   have hbody:(av (bW (aW (aa 1)) (ar 4) li) (jM (·+·) 3 (ac (.int 1)))) [e0,some (.sh (.lst (L.map es))),some (.ow (f.map A.e)),some (.sh (.int k)),x] =
     some (.nx [e0,some (.sh (.lst (L.map es))),some (.ow ((gx (L.map pr) p f).map A.e)),some (.sh (.int ((k+1:Nat):Int))),x']):=by
    simp only [e8,bW,cJ,fP,List.getElem?_cons_zero,List.getElem?_cons_succ,Option.bind_some,iE,bm]
    simp only [Bool.false_eq_true,if_false,Option.bind_some]
    rw [hin]
    simp [jM]
   rw [hbody]
   simp only [Option.bind_some,eW]
   obtain ⟨k',x'',ih⟩:=g4 hA es pr hes (e0:=e0) L b hL n (k+1) (gx (L.map pr) p f) x' i1 (by rw [j1];simp;omega) (by omega)
   refine ⟨k',x'',?_⟩
   have e2:jA (L.map pr) (n+1) k f=jA (L.map pr) n (k+1) (gx (L.map pr) p f):=by
    show (match f[k]? with | none=>f | some p=>_)=_
    rw [hp]
   rw [e2]
   exact ih
theorem n9 (hA:A.k≤15) {σ:Type} (es:σ→D) (pr:σ→P×P) (hes:∀ s,∃ rest,es s=.tup (A.e (pr s).1::A.e (pr s).2::rest)) (L:List σ) (b:P) (hL:L.length≤90) :
  dX c [A.e b,.lst (L.map es)]=some (.lst ((reach 100 (L.map pr) b).map A.e)):=by
 obtain ⟨k',x',h⟩:=g4 A hA es pr hes (e0:=some (.sh (A.e b))) L b (by omega) 100 0 [b] none ⟨by simp,by simp,by simp,by intro Q h _ p hp;simp at hp;rw [hp];exact h⟩ (by simp) (by omega)
 have hF:lh c=av (sset 2 (cE (ab (aa 0) ah))) (av (sset 3 (ac (.int 0))) (av (whileR 100) (jw 2))):=rfl
 have h0:[some (E.sh (A.e b)),some (.sh (.lst (L.map es))),some (.ow ([b].map A.e)),some (.sh (.int (0:Nat))),none]=[some (E.sh (A.e b)),some (.sh (.lst (L.map es))),some (.ow [A.e b]),some (.sh (.int 0)),none]:=rfl
 rw [h0] at h
 have h1:(1:Nat)≤big:=by rw [bH];omega
 simp only [dX,run_e,hF,e8,sset_e,dlst_e,aG,ej,fP,kh,List.map_cons,List.map_nil,List.length_cons,List.length_nil,List.cons_append,List.nil_append,List.replicate,List.getElem?_cons_zero,List.getElem?_cons_succ,Option.bind_some,k8,mN,iE,bm,ent_fr,ent_sh,thn_nx]
 simp [h1]
 rw [h]
 simp [reach]
end
end Pg
end
section
set_option linter.all false
set_option Elab.async false
set_option maxRecDepth 100000
namespace Pg
open PySem PySem.Spec L2 Ew Mx
variable (c:CA)
section
variable {P N:Type} [DecidableEq P] [DecidableEq N] (A:Enc P) (B:Enc N)
def a0 (w:Wlk P N):D:=.tup [.lst (w.1.map A.e),.lst (w.2.map B.e)]
theorem tri_e (s:P×P×N):(A.tri B).e s=.tup [A.e s.1,A.e s.2.1,B.e s.2.2]:=rfl
theorem bv {k:Nat} {F:FS} {ds:List D} {δ:DSt} {r:R} (h0:ds.map (fun d=>some (E.sh d))++List.replicate (k-ds.length) none=δ) (h:F δ=some (.rt r)) (hb:r.isBw=false):Ew.run k F ds=some r.view:=by
 unfold Ew.run
 rw [h0,h]
 simp [hb]
theorem cg {fi:DSt→Option (List D)} {g:GD} {t:DSt→Option Bool} {fe:FE} {m:Nat} {ix:List Nat} {δ:DSt} {items out:List D} (h1:fi δ=some items) (h2:items.length≤1000) (h3:cn g t fe (dIn m ix δ) items=some out) :
  bI fi g t fe m ix δ=some (.fr out):=by
 unfold bI
 rw [h1]
 show (if items.length≤big then _ else _)=_
 rw [if_pos (by rw [bH];omega),h3]
 rfl
theorem jF {m:List D→Option D} {f1:FE} {δ:DSt} {r1:R} {d:D} (h1:f1 δ=some r1) (hm:m [r1.view]=some d) (hb:r1.isBw=false∨d.flat=true):aq 1 m (ab f1 ah) δ=some (.sh d):=by
 simp only [iD,aG,ej,h1,Option.bind_some,gL,List.map_cons,List.map_nil,hm]
 rw [if_pos]
 exact ⟨rfl,hb.imp (fun h=>by simp [h]) id⟩
theorem fA {m:List D→Option D} {f1 f2:FE} {δ:DSt} {r1 r2:R} {d:D} (h1:f1 δ=some r1) (h2:f2 δ=some r2) (hm:m [r1.view,r2.view]=some d) (hb:(r1.isBw=false∧r2.isBw=false)∨d.flat=true):aq 2 m (ab f1 (ab f2 ah)) δ=some (.sh d):=by
 simp only [iD,aG,ej,h1,h2,Option.bind_some,gL,List.map_cons,List.map_nil,hm]
 rw [if_pos]
 exact ⟨rfl,hb.imp (fun h=>by simp [h]) id⟩
theorem gD {m:List D→Option D} {f1 f2 f3:FE} {δ:DSt} {r1 r2 r3:R} {d:D} (h1:f1 δ=some r1) (h2:f2 δ=some r2) (h3:f3 δ=some r3) (hm:m [r1.view,r2.view,r3.view]=some d) (hb:(r1.isBw=false∧r2.isBw=false∧r3.isBw=false)∨d.flat=true):aq 3 m (ab f1 (ab f2 (ab f3 ah))) δ=some (.sh d):=by
 simp only [iD,aG,ej,h1,h2,h3,Option.bind_some,gL,List.map_cons,List.map_nil,hm]
 rw [if_pos]
 exact ⟨rfl,hb.imp (fun h=>by simp [h]) id⟩
theorem call4 {m:List D→Option D} {f1 f2 f3 f4:FE} {δ:DSt} {r1 r2 r3 r4:R} {d:D} (h1:f1 δ=some r1) (h2:f2 δ=some r2) (h3:f3 δ=some r3) (h4:f4 δ=some r4) (hm:m [r1.view,r2.view,r3.view,r4.view]=some d) (hb:(r1.isBw=false∧r2.isBw=false∧r3.isBw=false∧r4.isBw=false)∨d.flat=true):aq 4 m (ab f1 (ab f2 (ab f3 (ab f4 ah)))) δ=some (.sh d):=by
 simp only [iD,aG,ej,h1,h2,h3,h4,Option.bind_some,gL,List.map_cons,List.map_nil,hm]
 rw [if_pos]
 exact ⟨rfl,hb.imp (fun h=>by simp [h]) id⟩
theorem aI {o:D→D→Option R} {fa fb:FE} {δ:DSt} {a b:R} {x:Option R} (h1:fa δ=some a) (h2:fb δ=some b) (h:o a.view b.view=x):ad o fa fb δ=x:=by
 rw [dbin_e,h1,h2];exact h
theorem jk {f:FE} {δ:DSt} {r:R} (h:f δ=some r) (hb:r.isBw=false):aR f δ=some (.rt r):=by
 rw [sret_e,h];simp [hb]
theorem dH {i:Nat} {f:FE} {δ δ':DSt} {r:R} {en:E} (h:f δ=some r) (he:r.ent=some en) (hd:δ.set i (some en)=δ'):sset i f δ=some (.nx δ'):=by
 rw [sset_e,h,Option.bind_some,he,Option.bind_some,hd]
theorem seq1 {F G:FS} {δ δ1:DSt} {x:Option Res} (h:F δ=some (.nx δ1)) (h2:G δ1=x):av F G δ=x:=by
 rw [e8,h,Option.bind_some,thn_nx,h2]
theorem cut1 (ds:List D):cutD ds (some 1) none=ds.tail:=by
 unfold cutD HT.sIx
 cases ds with
 | nil=>simp
 | cons d ds=>
  simp
theorem gN (xs ys:List D) (h:xs.length+ys.length≤1000):be (.lst xs) (.lst ys)=some (.fr (xs++ys)):=by
 show (if xs.length+ys.length≤big then _ else _)=_
 rw [if_pos (by rw [bH];omega)]
end
end Pg
end
section
set_option linter.all false
set_option Elab.async false
set_option maxRecDepth 100000
namespace Pg
open PySem PySem.Spec L2 Ew Mx
variable (c:CA)
section
variable {P N:Type} [DecidableEq P] [DecidableEq N] (A:Enc P) (B:Enc N)
def kz:FS:=sif ((dI (aj (ad oEq (ad oIx (aa 7) (ac (.int 0))) (ad oIx (aa 6) (dun d0 (ac (.int 1)))))) (aj (ad oNotIn (ad oIx (aa 7) (ac (.int 1))) (aa 4))))) (av (dR 4 (ad oIx (aa 7) (ac (.int 1)))) (dR 3 (b9 (ab (ad be (aa 6) (cE (ab (ad oIx (aa 7) (ac (.int 1))) ah))) (ab (ad be (ad oIx (ad oIx (aa 3) (aa 5)) (ac (.int 1))) (cE (ab (ad oIx (aa 7) (ac (.int 2))) ah))) ah))))) aE
theorem lZ (i:Int):d0 (.int i)=some (.sh (.int (-i))):=rfl
theorem walk_body (hA:A.k≤9) (hB:B.k≤9) {e0 e1 e2:Option E} {k:Nat} {w:Wlk P N} {b:P} (hb:w.1.getLast?=some b) (s:P×P×N) (q:List (Wlk P N)×List P) (hk:q.1[k]?=some w)
  (l1:q.1.length≤900) (l2:q.2.length≤900) (l3:w.1.length≤900) (l4:w.2.length≤900) :
  kz [e0,e1,e2,some (.ow (q.1.map (a0 A B))),some (.ow (q.2.map A.e)),some (.sh (.int k)),some (.sh (.lst (w.1.map A.e))),some (.sh ((A.tri B).e s))] =
   some (.nx [e0,e1,e2,some (.ow ((scan1 w q s).1.map (a0 A B))),some (.ow ((scan1 w q s).2.map A.e)),some (.sh (.int k)),some (.sh (.lst (w.1.map A.e))),some (.sh ((A.tri B).e s))]):=by
 have hk2:(q.1.map (a0 A B))[k]?=some (a0 A B w):=by rw [List.getElem?_map,hk];rfl
 have hlast:(w.1.map A.e).getLast?=some (A.e b):=by rw [getLast?_map',hb];rfl
 have hA':A.k≤15:=by omega
 have b1:(1:Nat)≤big:=by rw [bH];omega
 have b2:(2:Nat)≤big:=by rw [bH];omega
 have b3:q.2.length≤big:=by rw [bH];omega
 have b4:q.1.length≤big:=by rw [bH];omega
 unfold kz scan1
 rw [tri_e]
 simp only [bQ,lK,cI,dbin_e,dun_e,fP,kh,List.getElem?_cons_zero,List.getElem?_cons_succ,Option.bind_some,bm,view_bw,oIx_t,oIx_l,eT,gc,atIn,lZ,lV,hlast,Option.map_some,A.oEq hA',lM,A.oNotIn hA']
 by_cases h1:s.1=b
 ·
  by_cases h2:s.2.1∈q.2
  ·
   simp [h1,h2,hb]
  ·
   have a1:=gN (w.1.map A.e) [A.e s.2.1] (by simp;omega)
   have a2:=gN (w.2.map B.e) [B.e s.2.2] (by simp;omega)
   simp [h1,h2,hb,dR,gc,atI_2,atIn,hk2,b1,b2,b3,b4,a0,a1,a2]
 ·
  have h3:¬b=s.1:=fun e=>h1 e.symm
  simp [h1,hb,h3]
theorem lj (w:Wlk P N) (q:List (Wlk P N)×List P) (s:P×P×N):(scan1 w q s).1.length≤q.1.length+1∧(scan1 w q s).2.length≤q.2.length+1:=by
 unfold scan1
 split
 ·
  simp
 ·
  constructor <;> omega
theorem walk_in (hA:A.k≤9) (hB:B.k≤9) {e0 e1 e2:Option E} {k:Nat} {w:Wlk P N} {b:P} (hb:w.1.getLast?=some b) (l3:w.1.length≤900) (l4:w.2.length≤900) :
  ∀ (L:cF P N) (q:List (Wlk P N)×List P) (x:Option E),q.1[k]?=some w→q.1.length+L.length≤900→q.2.length+L.length≤900→
  ∃ x',bC (ar 7) kz (L.map (A.tri B).e) [e0,e1,e2,some (.ow (q.1.map (a0 A B))),some (.ow (q.2.map A.e)),some (.sh (.int k)),some (.sh (.lst (w.1.map A.e))),x] =
   some (.nx [e0,e1,e2,some (.ow ((scan L w q).1.map (a0 A B))),some (.ow ((scan L w q).2.map A.e)),some (.sh (.int k)),some (.sh (.lst (w.1.map A.e))),x'])
 | [],q,x,_,_,_=>⟨x,rfl⟩
 | s::L,q,x,hk,h1,h2=>by
  simp at h1 h2
  have hbd:=walk_body A B hA hB (e0:=e0) (e1:=e1) (e2:=e2) hb s q hk (by omega) (by omega) l3 l4
  obtain ⟨x',ih⟩:=walk_in hA hB (e0:=e0) (e1:=e1) (e2:=e2) hb l3 l4 L (scan1 w q s) (some (.sh ((A.tri B).e s))) (by
   unfold scan1
   split
   ·
    rw [List.getElem?_append_left]
    ·
     exact hk
    ·
     exact (List.getElem?_eq_some_iff.mp hk).1
   ·
    exact hk) (by have:=lj w q s;omega) (by have:=lj w q s;omega)
  refine ⟨x',?_⟩
  rw [List.map_cons]
  unfold bC
  have hg:ar 7 ((A.tri B).e s) [e0,e1,e2,some (.ow (q.1.map (a0 A B))),some (.ow (q.2.map A.e)),some (.sh (.int k)),some (.sh (.lst (w.1.map A.e))),x]=some [e0,e1,e2,some (.ow (q.1.map (a0 A B))),some (.ow (q.2.map A.e)),some (.sh (.int k)),some (.sh (.lst (w.1.map A.e))),some (.sh ((A.tri B).e s))]:=rfl
  rw [hg]
  show (kz _).bind _=_
  rw [hbd]
  exact ih
def fY (n:Nat):FS:=cG (aj (ad oLt (aa 5) (az eM (ab (aa 3) ah)))) (av (sset 6 (ad oIx (ad oIx (aa 3) (aa 5)) (ac (.int 0)))) (av (sif (aj (ad oIn (ad oIx (aa 6) (dun d0 (ac (.int 1)))) (aa 2))) (aR (ad oIx (aa 3) (aa 5))) aE) (av (bW (aW (aa 0)) (ar 7) kz) (jM (·+·) 5 (ac (.int 1)))))) n
def outW:Option (Wlk P N)→D
 | none=>.non
 | some w=>a0 A B w
theorem kA (hA:A.k≤9) (hB:B.k≤9) {e1:Option E} (L:cF P N) (a:P) (ends:List P) (hL:L.length≤300) :
  ∀ (n k:Nat) (q:List (Wlk P N)×List P) (x6 x7:Option E),Inv L L ends a q→k≤q.1.length→L.length+2≤n+k→
  match bfs L ends n k q with
  | some w=>fY n [some (.sh (.lst (L.map (A.tri B).e))),e1,some (.sh (.lst (ends.map A.e))),some (.ow (q.1.map (a0 A B))),some (.ow (q.2.map A.e)),some (.sh (.int k)),x6,x7]=some (.rt (.sh (a0 A B w)))
  | none=>∃ δ,fY n [some (.sh (.lst (L.map (A.tri B).e))),e1,some (.sh (.lst (ends.map A.e))),some (.ow (q.1.map (a0 A B))),some (.ow (q.2.map A.e)),some (.sh (.int k)),x6,x7]=some (.nx δ)
 | 0,k,q,x6,x7,I,hk,hn=>by have:=lS I;omega
 | n+1,k,q,x6,x7,I,hk,hn=>by
  have hql:=lS I
  have hq2:q.2.length=q.1.length:=by have:=congrArg List.length I.ls;simpa using this.symm
  have ht:(aj (ad oLt (aa 5) (az eM (ab (aa 3) ah)))) [some (.sh (.lst (L.map (A.tri B).e))),e1,some (.sh (.lst (ends.map A.e))),some (.ow (q.1.map (a0 A B))),some (.ow (q.2.map A.e)),some (.sh (.int k)),x6,x7]=some (decide (k<q.1.length)):=by
   simp
  unfold bfs
  cases hp:q.1[k]? with
  | none=>
   have:¬k<q.1.length:=by rw [List.getElem?_eq_none_iff] at hp;omega
   refine ⟨[some (.sh (.lst (L.map (A.tri B).e))),e1,some (.sh (.lst (ends.map A.e))),some (.ow (q.1.map (a0 A B))),some (.ow (q.2.map A.e)),some (.sh (.int k)),x6,x7],?_⟩
   unfold fY cG
   rw [ht]
   simp only [Option.bind_some]
   rw [if_neg (by simpa using this)]
  | some w=>
   have hk2:k<q.1.length:=(List.getElem?_eq_some_iff.mp hp).1
   obtain ⟨b,sw,hm⟩:=I.ok w (List.mem_of_getElem? hp)
   have hlast:=sw.last
   have hwl:w.1.length≤q.2.length:=List.Nodup.length_le_of_subset sw.nodup hm
   have hwl2:=sw.len
   have hk3:(q.1.map (a0 A B))[k]?=some (a0 A B w):=by rw [List.getElem?_map,hp];rfl
   have hl3:(w.1.map A.e).getLast?=some (A.e b):=by rw [getLast?_map',hlast];rfl
   have s1:sset 6 (ad oIx (ad oIx (aa 3) (aa 5)) (ac (.int 0))) [some (.sh (.lst (L.map (A.tri B).e))),e1,some (.sh (.lst (ends.map A.e))),some (.ow (q.1.map (a0 A B))),some (.ow (q.2.map A.e)),some (.sh (.int k)),x6,x7] =
     some (.nx [some (.sh (.lst (L.map (A.tri B).e))),e1,some (.sh (.lst (ends.map A.e))),some (.ow (q.1.map (a0 A B))),some (.ow (q.2.map A.e)),some (.sh (.int k)),some (.sh (.lst (w.1.map A.e))),x7]):=by
    simp [atIn,hk3,a0,eT]
   have t2:(aj (ad oIn (ad oIx (aa 6) (dun d0 (ac (.int 1)))) (aa 2))) [some (.sh (.lst (L.map (A.tri B).e))),e1,some (.sh (.lst (ends.map A.e))),some (.ow (q.1.map (a0 A B))),some (.ow (q.2.map A.e)),some (.sh (.int k)),some (.sh (.lst (w.1.map A.e))),x7]=some (decide (b∈ends)):=by
    simp [lZ,lV,hlast,A.oIn (show A.k≤15 by omega)]
   have hli:h7 ends w=decide (b∈ends):=by simp [h7,hlast]
   simp only [hli]
   by_cases hbe:b∈ends
   ·
    rw [if_pos (by simpa using hbe)]
    show fY (n+1) _=_
    unfold fY cG
    rw [ht]
    simp only [Option.bind_some]
    rw [if_pos (by simpa using hk2)]
    have:(av (sset 6 (ad oIx (ad oIx (aa 3) (aa 5)) (ac (.int 0)))) (av (sif (aj (ad oIn (ad oIx (aa 6) (dun d0 (ac (.int 1)))) (aa 2))) (aR (ad oIx (aa 3) (aa 5))) aE) (av (bW (aW (aa 0)) (ar 7) kz) (jM (·+·) 5 (ac (.int 1)))))) [some (.sh (.lst (L.map (A.tri B).e))),e1,some (.sh (.lst (ends.map A.e))),some (.ow (q.1.map (a0 A B))),some (.ow (q.2.map A.e)),some (.sh (.int k)),x6,x7]=some (.rt (.sh (a0 A B w))):=by
     refine seq1 s1 ?_
     rw [e8,bQ,t2]
     simp [hbe,atIn,hk3]
    rw [this]
    rfl
   ·
    rw [if_neg (by simpa using hbe)]
    obtain ⟨i1,⟨e',j1⟩,⟨e'',j2⟩,i4⟩:=kn sw hbe L q (fun _ h=>h) I hm
    obtain ⟨x',hin⟩:=walk_in A B hA hB (e0:=some (.sh (.lst (L.map (A.tri B).e)))) (e1:=e1) (e2:=some (.sh (.lst (ends.map A.e)))) hlast (by omega) (by omega) L q x7 hp (by omega) (by omega)
    have hbody:(av (sset 6 (ad oIx (ad oIx (aa 3) (aa 5)) (ac (.int 0)))) (av (sif (aj (ad oIn (ad oIx (aa 6) (dun d0 (ac (.int 1)))) (aa 2))) (aR (ad oIx (aa 3) (aa 5))) aE) (av (bW (aW (aa 0)) (ar 7) kz) (jM (·+·) 5 (ac (.int 1)))))) [some (.sh (.lst (L.map (A.tri B).e))),e1,some (.sh (.lst (ends.map A.e))),some (.ow (q.1.map (a0 A B))),some (.ow (q.2.map A.e)),some (.sh (.int k)),x6,x7] =
      some (.nx [some (.sh (.lst (L.map (A.tri B).e))),e1,some (.sh (.lst (ends.map A.e))),some (.ow ((scan L w q).1.map (a0 A B))),some (.ow ((scan L w q).2.map A.e)),some (.sh (.int ((k+1:Nat):Int))),some (.sh (.lst (w.1.map A.e))),x']):=by
     refine seq1 s1 ?_
     refine seq1 (δ1:=[some (.sh (.lst (L.map (A.tri B).e))),e1,some (.sh (.lst (ends.map A.e))),some (.ow (q.1.map (a0 A B))),some (.ow (q.2.map A.e)),some (.sh (.int k)),some (.sh (.lst (w.1.map A.e))),x7]) ?_ ?_
     ·
      rw [bQ,t2]
      simp [hbe]
     ·
      refine seq1 (δ1:=[some (.sh (.lst (L.map (A.tri B).e))),e1,some (.sh (.lst (ends.map A.e))),some (.ow ((scan L w q).1.map (a0 A B))),some (.ow ((scan L w q).2.map A.e)),some (.sh (.int k)),some (.sh (.lst (w.1.map A.e))),x']) ?_ ?_
      ·
       simp only [bW,cJ,fP,List.getElem?_cons_zero,List.getElem?_cons_succ,Option.bind_some,iE,bm]
       simp only [Bool.false_eq_true,if_false,Option.bind_some]
       exact hin
      ·
       simp [jM]
    have ih:=kA hA hB (e1:=e1) L a ends hL n (k+1) (scan L w q) (some (.sh (.lst (w.1.map A.e)))) x' i1 (by rw [j1];simp;omega) (by omega)
    have hw:fY (n+1) [some (.sh (.lst (L.map (A.tri B).e))),e1,some (.sh (.lst (ends.map A.e))),some (.ow (q.1.map (a0 A B))),some (.ow (q.2.map A.e)),some (.sh (.int k)),x6,x7] =
      fY n [some (.sh (.lst (L.map (A.tri B).e))),e1,some (.sh (.lst (ends.map A.e))),some (.ow ((scan L w q).1.map (a0 A B))),some (.ow ((scan L w q).2.map A.e)),some (.sh (.int ((k+1:Nat):Int))),some (.sh (.lst (w.1.map A.e))),x']:=by
     show cG _ _ (n+1) _=_
     unfold cG
     rw [ht]
     simp only [Option.bind_some]
     rw [if_pos (by simpa using hk2),hbody]
     rfl
    rw [hw]
    exact ih
theorem jl (hA:A.k≤9) (hB:B.k≤9) (L:cF P N) (a:P) (ends:List P) (hL:L.length≤90) :
  cp c [.lst (L.map (A.tri B).e),A.e a,.lst (ends.map A.e)]=some (outW A B (ey 100 L a ends)):=by
 have h:=kA A B hA hB (e1:=some (.sh (A.e a))) L a ends (by omega) 100 0 ([([a],[])],[a]) none none ⟨by simp,by simp,by intro w hw;simp at hw;subst hw;exact ⟨a,.nil,by simp⟩,by simp,by simp⟩ (by simp) (by omega)
 have hF:dF c=av (sset 3 (cE (ab (b9 (ab (cE (ab (aa 1) ah)) (ab (cE ah) ah))) ah))) (av (sset 4 (cE (ab (aa 1) ah))) (av (sset 5 (ac (.int 0))) (av (fY 100) (aR (ac .non))))):=rfl
 have b0:(0:Nat)≤big:=by omega
 have b1:(1:Nat)≤big:=by rw [bH];omega
 have b2:(2:Nat)≤big:=by rw [bH];omega
 have hst:∀ x,(fY 100 [some (.sh (.lst (L.map (A.tri B).e))),some (.sh (A.e a)),some (.sh (.lst (ends.map A.e))),some (.ow [a0 A B ([a],[])]),some (.ow [A.e a]),some (.sh (.int 0)),none,none])=x→
   dF c [some (.sh (.lst (L.map (A.tri B).e))),some (.sh (A.e a)),some (.sh (.lst (ends.map A.e))),none,none,none,none,none]=x.bind (Res.thn (aR (ac .non))):=by
  intro x hx
  rw [hF]
  refine seq1 (δ1:=[some (.sh (.lst (L.map (A.tri B).e))),some (.sh (A.e a)),some (.sh (.lst (ends.map A.e))),some (.ow [a0 A B ([a],[])]),none,none,none,none]) (by simp [b1,b2,a0]) ?_
  refine seq1 (δ1:=[some (.sh (.lst (L.map (A.tri B).e))),some (.sh (A.e a)),some (.sh (.lst (ends.map A.e))),some (.ow [a0 A B ([a],[])]),some (.ow [A.e a]),none,none,none]) (by simp [b1]) ?_
  refine seq1 (δ1:=[some (.sh (.lst (L.map (A.tri B).e))),some (.sh (A.e a)),some (.sh (.lst (ends.map A.e))),some (.ow [a0 A B ([a],[])]),some (.ow [A.e a]),some (.sh (.int 0)),none,none]) (by simp) ?_
  rw [e8,hx]
 unfold ey
 cases hb:bfs L ends 100 0 ([([a],[])],[a]) with
 | some w=>
  rw [hb] at h
  have:=hst _ h
  exact bv (r:=.sh (a0 A B w)) rfl this rfl
 | none=>
  rw [hb] at h
  obtain ⟨δ,h⟩:=h
  have:=hst _ h
  exact bv (r:=.sh .non) rfl this rfl
end
end Pg
end
section
set_option linter.all false
set_option Elab.async false
set_option maxRecDepth 100000
namespace Pg
open PySem PySem.Spec L2 Ew Mx
variable (c:CA)
abbrev Tie:=Int×Int
abbrev ET:Enc Tie:=Enc.int.par Enc.int
abbrev aJ (t:Tie):D:=.tup [.int t.1,.int t.2]
abbrev ai (ns:List Int):D:=.lst (ns.map .int)
abbrev eWk (w:Wlk Int Int):D:=a0 Enc.int Enc.int w
def ao (n:Int) (T:List Tie):D:=.obj c.Web [("points",.int n),("pairs",.lst (T.map aJ))]
theorem jm {A:Type} {a b:A}:List.lookup ("points" : Str) [("points",a),("pairs",b)]=some a:=rfl
theorem lk_pairs {A:Type} {a b:A}:List.lookup ("pairs" : Str) [("points",a),("pairs",b)]=some b:=rfl
theorem lk_ties {A:Type} {a b:A}:List.lookup ("ties" : Str) [("points",a),("pairs",b)]=none:=rfl
def bc (n:Int) (T:List Tie):Prop:=1≤n∧n≤8∧T.length≤14∧∀ t∈T,0≤t.1∧t.1<t.2∧t.2<n
theorem cQ (i:Int):bN c [.int i]=some (.bl true):=by
 simp [bN,jC,aw,cY,is_bool]
def g5 (n p:Int):Bool:=decide (0≤p)&&decide (p<n)
theorem fZ (n p:Int) (T:List Tie):cD c [ao c n T,.int p]=some (.bl (g5 n p)):=by
 unfold g5
 by_cases h:0≤p <;> simp [cD,jD,ao,h,jm]
theorem ties_eq (n:Int) (T:List Tie):bG c [ao c n T]=some (.lst (T.map aJ)):=by
 simp [bG,kr,ao,lk_pairs]
theorem jn {f:FE} {δ:DSt} {n:Int} {T:List Tie} (h:f δ=some (.sh (ao c n T))):bB c.Web "ties" 1 (bG c) f ah δ=some (.sh (.lst (T.map aJ))):=by
 have:=ties_eq c n T
 unfold ao at this h
 simp [h,lk_ties,this]
def cz (n p q:Int):Bool:=g5 n p&&(g5 n q&&!decide (p=q))
theorem eH (n p q:Int) (T:List Tie):aY c [ao c n T,.int p,.int q]=some (.bl (cz n p q)):=by
 have h1:=fZ c n p T
 have h2:=fZ c n q T
 unfold cz
 cases e1:g5 n p <;> cases e2:g5 n q <;> rw [e1] at h1 <;> rw [e2] at h2 <;> simp [aY,fy,h1,h2]
theorem ma (p q:Int):(if q<p then q else p)=min p q:=by split <;> omega
theorem int_max (p q:Int):(if q>p then q else p)=max p q:=by split <;> omega
def tieB (p q:Int):Tie:=(min p q,max p q)
def pts (n:Int):List Int:=(List.range n.toNat).map fun (k:Nat)=>(k:Int)
theorem bV (n:Int) (T:List Tie) (h:0≤n) (h2:n≤1000):aX c [ao c n T]=some (ai (pts n)):=by
 have e:(-1000000:Int)≤0∧(0:Int)≤1000000∧-1000000≤n∧n≤1000000:=by omega
 simp only [aX,iN,run_e,sret_e,di,aG,ej,ja,fP,ao]
 simp [jm,rngD,e,ai,pts]
def isSet (n:Int) (ps:List Int):Bool:=decide (ps=(pts n).filter ps.contains)
theorem dW (n:Int):(pts n).length=n.toNat:=by unfold pts;simp
theorem cR {n p:Int}:p∈pts n↔0≤p∧p<n:=by
 unfold pts
 rw [List.mem_map]
 constructor
 ·
  rintro ⟨k,hk,rfl⟩
  rw [List.mem_range] at hk
  omega
 ·
  rintro ⟨h1,h2⟩
  exact ⟨p.toNat,by rw [List.mem_range];omega,by omega⟩
theorem gO (n:Int):(pts n).Nodup:=gY List.nodup_range (fun x _ y _ e=>by omega)
theorem jP (n:Int) (T:List Tie) (ps:List Int) (h:0≤n) (h2:n≤100):eA c [ao c n T,ai ps]=some (.bl (isSet n ps)):=by
 have a:=bV c n T h (by omega)
 have hb:(pts n).length≤1000:=by rw [dW];omega
 have cm:=cg (fi:=aW (aq 1 (aX c) (ab (aa 0) ah))) (g:=ar 0) (t:=aj (ad oIn (aa 0) (aa 1))) (fe:=aa 0) (m:=1) (ix:=[1]) (δ:=[some (.sh (ao c n T)),some (.sh (ai ps))]) (items:=(pts n).map .int) (by
   rw [cJ,jF (r1:=.sh (ao c n T)) rfl a (.inl rfl)];rfl) (by simpa using hb) (ce _ _ _ _ D.int ps.contains D.int (pts n) (fun x _=>by
  refine ⟨_,rfl,?_,fun _=>⟨.sh (.int x),rfl,rfl,rfl⟩⟩
  simp [dIn,ai]))
 refine bv (r:=.sh (.bl (isSet n ps))) rfl (jk (aI (a:=.sh (ai ps)) rfl cm ?_) rfl) rfl
 show oEq (.lst (ps.map .int)) (.lst (((pts n).filter ps.contains).map .int))=_
 rw [iF];rfl
def cS (ps:List Int) (t:Tie):Bool:=decide (t.1∈ps) != decide (t.2∈ps)
def bj (T:List Tie) (ps:List Int):List Int:=(T.filter (cS ps)).map fun t=>if t.1∈ps then t.2 else t.1
theorem oNe_bb (a b:Bool):oNe (.bl a) (.bl b)=some (.sh (.bl (a != b))):=by
 cases a <;> cases b <;> rfl
theorem gE (n:Int) (T:List Tie) (ps:List Int) (hT:T.length≤1000):bp c [ao c n T,ai ps]=some (ai (bj T ps)):=by
 have c1:=cg (fi:=aW ((bB c.Web "ties" 1 (bG c) (aa 0) ah))) (g:=ar 0) (t:=aj (ad oNe (ad oIn (ad oIx (aa 0) (ac (.int 0))) (aa 1)) (ad oIn (ad oIx (aa 0) (ac (.int 1))) (aa 1)))) (fe:=aa 0) (m:=1) (ix:=[1]) (δ:=[some (.sh (ao c n T)),some (.sh (ai ps)),none]) (items:=T.map aJ) (by
   rw [cJ,jn c (f:=aa 0) rfl];rfl) (by simpa using hT) (ce _ _ _ _ aJ (cS ps) aJ T (fun t _=>by
  refine ⟨_,rfl,?_,fun _=>⟨.sh (aJ t),rfl,rfl,rfl⟩⟩
  simp [dIn,ai,eT,gc,oNe_bb,cS]))
 have c2:=cg (fi:=aW (aa 2)) (g:=ar 0) (t:=eL) (fe:=dif (aj (ad oIn (ad oIx (aa 0) (ac (.int 0))) (aa 1))) (ad oIx (aa 0) (ac (.int 1))) (ad oIx (aa 0) (ac (.int 0)))) (m:=1) (ix:=[1]) (δ:=[some (.sh (ao c n T)),some (.sh (ai ps)),some (.sh (.lst ((T.filter (cS ps)).map aJ)))]) rfl (by simp;exact Nat.le_trans (List.length_filter_le _ _) hT) (ce _ _ _ _ aJ (fun _=>true) (fun t=>.int (if t.1∈ps then t.2 else t.1)) (T.filter (cS ps)) (fun t _=>by
  refine ⟨_,rfl,rfl,fun _=>⟨.sh (.int (if t.1∈ps then t.2 else t.1)),?_,rfl,rfl⟩⟩
  by_cases h:t.1∈ps <;> simp [dIn,ai,eT,gc,h]))
 have e1:((T.filter (cS ps)).filter fun _=>true)=T.filter (cS ps):=by simp
 rw [e1] at c2
 refine bv (r:=.fr _) rfl (seq1 (dH c1 rfl rfl) ?_) rfl
 rw [ff]
 refine (jk c2 rfl).trans ?_
 unfold bj
 rw [List.map_map]
 rfl
theorem oa (T:List Tie) (ps:List Int):(bj T ps).length=(T.filter (cS ps)).length:=by simp [bj]
end Pg
end
section
set_option linter.all false
set_option Elab.async false
set_option maxRecDepth 100000
namespace Pg
open PySem PySem.Spec L2 Ew Mx
variable (c:CA)
theorem fB:∀ ns:List Int,nums (ns.map .int)=some ns
 | []=>rfl
 | n::ns=>by simp only [List.map_cons,nums,fB ns];rfl
theorem gP:∀ bs:List Bool,bls (bs.map .bl)=some bs
 | []=>rfl
 | b::bs=>by simp only [List.map_cons,bls,gP bs];rfl
def au (T:List Tie):cF Int Int:=(T.zipIdx).flatMap fun p=>[(p.1.1,p.1.2,(p.2:Int)),(p.1.2,p.1.1,(p.2:Int))]
theorem bE {T:List Tie} {s:Int×Int×Int}:s∈au T↔∃ (i:Nat) (t:Tie),T[i]?=some t∧s.2.2=(i:Int)∧((s.1=t.1∧s.2.1=t.2)∨(s.1=t.2∧s.2.1=t.1)):=by
 unfold au
 rw [List.mem_flatMap]
 constructor
 ·
  rintro ⟨p,hp,hs⟩
  obtain ⟨t,i⟩:=p
  have:=List.mem_zipIdx_iff_getElem?.1 hp
  simp at this hs
  refine ⟨i,t,this,?_⟩
  rcases hs with rfl | rfl
  ·
   exact ⟨rfl,.inl ⟨rfl,rfl⟩⟩
  ·
   exact ⟨rfl,.inr ⟨rfl,rfl⟩⟩
 ·
  rintro ⟨i,t,h1,h2,h3⟩
  refine ⟨(t,i),List.mem_zipIdx_iff_getElem?.2 h1,?_⟩
  rcases s with ⟨x,y,z⟩
  simp at h2 h3 ⊢
  subst h2
  rcases h3 with ⟨rfl,rfl⟩ | ⟨rfl,rfl⟩
  ·
   exact .inl ⟨rfl,rfl,rfl⟩
  ·
   exact .inr ⟨rfl,rfl,rfl⟩
theorem dq (T:List Tie):(au T).length=2*T.length:=by
 unfold au
 have:∀ (T:List Tie) (k:Nat),((T.zipIdx k).flatMap fun p=>[(p.1.1,p.1.2,(p.2:Int)),(p.1.2,p.1.1,(p.2:Int))]).length=2*T.length:=by
  intro T
  induction T with
  | nil=>intro k;rfl
  | cons t T ih=>intro k;simp only [List.zipIdx_cons,List.flatMap_cons,List.length_append,ih,List.length_cons,List.length_nil];omega
 exact this T 0
theorem f6 (T:List Tie):Uniq (au T):=by
 intro s hs t ht e
 obtain ⟨i,x,h1,h2,h3⟩:=bE.1 hs
 obtain ⟨j,y,k1,k2,k3⟩:=bE.1 ht
 have:i=j:=by rw [h2,k2] at e;omega
 subst this
 rw [h1] at k1
 cases k1
 rcases s with ⟨a,b,n⟩
 rcases t with ⟨a',b',n'⟩
 simp at *
 subst h2;subst k2
 rcases h3 with ⟨rfl,rfl⟩ | ⟨rfl,rfl⟩ <;> rcases k3 with ⟨rfl,rfl⟩ | ⟨rfl,rfl⟩ <;> simp
theorem m5 (T:List Tie):∀ s∈au T,turned s∈au T:=by
 intro s hs
 obtain ⟨i,x,h1,h2,h3⟩:=bE.1 hs
 refine bE.2 ⟨i,x,h1,h2,?_⟩
 rcases h3 with ⟨a,b⟩ | ⟨a,b⟩
 ·
  exact .inr ⟨b,a⟩
 ·
  exact .inl ⟨b,a⟩
theorem og {n:Int} {T:List Tie} (W:bc n T):∀ s∈au T,s.1≠s.2.1:=by
 intro s hs
 obtain ⟨i,x,h1,h2,h3⟩:=bE.1 hs
 have:=W.2.2.2 x (List.mem_of_getElem? h1)
 omega
theorem f7 {n:Int} {T:List Tie} (W:bc n T):∀ s∈au T,0≤s.1∧s.1<n∧0≤s.2.1∧s.2.1<n:=by
 intro s hs
 obtain ⟨i,x,h1,h2,h3⟩:=bE.1 hs
 have:=W.2.2.2 x (List.mem_of_getElem? h1)
 omega
abbrev eSt (s:Int×Int×Int):D:=(Enc.int.tri Enc.int).e s
theorem g6 {e0:Option E}:∀ (T:List Tie) (k:Nat) (acc:cF Int Int) (x2 x3:Option E),acc.length+2*T.length≤1000→
  ∃ y2 y3,bC (gtup 2 (eN (ar 2) (eN (ar 3) gnil))) (av (dR 1 (b9 (ab (ad oIx (aa 3) (ac (.int 0))) (ab (ad oIx (aa 3) (ac (.int 1))) (ab (aa 2) ah))))) (dR 1 (b9 (ab (ad oIx (aa 3) (ac (.int 1))) (ab (ad oIx (aa 3) (ac (.int 0))) (ab (aa 2) ah))))))
   ((T.zipIdx k).map fun p=>D.tup [.int (p.2:Int),aJ p.1]) [e0,some (.ow (acc.map eSt)),x2,x3] =
   some (.nx [e0,some (.ow ((acc++(T.zipIdx k).flatMap fun p=>[(p.1.1,p.1.2,(p.2:Int)),(p.1.2,p.1.1,(p.2:Int))]).map eSt)),y2,y3])
 | [],k,acc,x2,x3,_=>⟨x2,x3,by simp [bC]⟩
 | t::T,k,acc,x2,x3,hl=>by
  simp only [List.length_cons] at hl
  obtain ⟨y2,y3,ih⟩:=g6 (e0:=e0) T (k+1) (acc++[(t.1,t.2,(k:Int)),(t.2,t.1,(k:Int))]) (some (.sh (.int k))) (some (.sh (aJ t))) (by simp;omega)
  refine ⟨y2,y3,?_⟩
  have b3:(3:Nat)≤big:=by rw [bH];omega
  have b4:acc.length≤big:=by rw [bH];omega
  have b5:acc.length+1≤big:=by rw [bH];omega
  rw [List.zipIdx_cons,List.map_cons]
  unfold bC
  have hg:gtup 2 (eN (ar 2) (eN (ar 3) gnil)) (D.tup [.int (k:Int),aJ t]) [e0,some (.ow (acc.map eSt)),x2,x3]=some [e0,some (.ow (acc.map eSt)),some (.sh (.int k)),some (.sh (aJ t))]:=rfl
  rw [hg]
  simp only [Option.bind_some]
  have hb:(av (dR 1 (b9 (ab (ad oIx (aa 3) (ac (.int 0))) (ab (ad oIx (aa 3) (ac (.int 1))) (ab (aa 2) ah))))) (dR 1 (b9 (ab (ad oIx (aa 3) (ac (.int 1))) (ab (ad oIx (aa 3) (ac (.int 0))) (ab (aa 2) ah))))))
    [e0,some (.ow (acc.map eSt)),some (.sh (.int k)),some (.sh (aJ t))]=some (.nx [e0,some (.ow ((acc++[(t.1,t.2,(k:Int)),(t.2,t.1,(k:Int))]).map eSt)),some (.sh (.int k)),some (.sh (aJ t))]):=by
   simp [dR,eT,gc,b3,b4,b5,tri_e,Enc.int]
  rw [hb]
  simp only [Option.bind_some,eW]
  rw [ih]
  simp
theorem jG (n:Int) (T:List Tie) (hT:T.length≤400):fU c [ao c n T]=some (.lst ((au T).map eSt)):=by
 obtain ⟨y2,y3,h⟩:=g6 (e0:=some (.sh (ao c n T))) T 0 [] none none (by simp;omega)
 refine bv (r:=.fr _) rfl ?_ rfl
 refine seq1 (δ1:=[some (.sh (ao c n T)),some (.ow []),none,none]) (by simp) ?_
 refine seq1 (δ1:=[some (.sh (ao c n T)),some (.ow ((au T).map eSt)),y2,y3]) ?_ rfl
 have hi:(ienum (ab ((bB c.Web "ties" 1 (bG c) (aa 0) ah)) ah)) [some (.sh (ao c n T)),some (.ow []),none,none]=some ((T.zipIdx 0).map fun p=>D.tup [.int (p.2:Int),aJ p.1]):=by
  unfold ienum
  rw [aG,jn c (f:=aa 0) rfl]
  simp only [Option.bind_some,ej,iE,bm,Bool.false_eq_true,if_false,List.length_map]
  congr 1
  refine List.ext_getElem? fun i=>?_
  rw [List.getElem?_zipWith,List.getElem?_map,List.getElem?_map,List.getElem?_zipIdx]
  by_cases hi:i<T.length
  ·
   rw [List.getElem?_range hi,List.getElem?_eq_getElem hi]
   simp
  ·
   rw [List.getElem?_eq_none (show (List.range T.length).length≤i by simp;omega),List.getElem?_eq_none (show T.length≤i by omega)]
   rfl
 unfold bW
 rw [hi]
 exact h
end Pg
end
section
set_option linter.all false
set_option Elab.async false
set_option maxRecDepth 100000
namespace Pg
open PySem PySem.Spec L2 Ew Mx
variable (c:CA)
theorem all_true {f:DSt→Option (List R)} {δ:DSt} {α:Type} {xs:List α} (h:f δ=some [.fr (xs.map fun _=>D.bl true)]):az i9 f δ=some (.sh (.bl true)):=by
 rw [eu,h]
 simp only [Option.bind_some,view_fr]
 unfold i9
 have e:(xs.map fun _=>D.bl true)=(xs.map fun _=>true).map D.bl:=by rw [List.map_map];rfl
 rw [e]
 show (bls ((xs.map fun _=>true).map D.bl)).map _=_
 rw [gP]
 simp
theorem m6 {α:Type} {xs:List α} {i:Int} (h0:0≤i):atI xs i=xs[i.toNat]?:=by
 obtain ⟨k,rfl⟩ : ∃ k:Nat,i=k:=⟨i.toNat,by omega⟩
 rw [atIn]
 rfl
end Pg
end
section
set_option linter.all false
set_option Elab.async false
set_option maxRecDepth 100000
namespace Pg
open PySem PySem.Spec L2 Ew Mx
variable (c:CA)
theorem call5 {m:List D→Option D} {f1 f2 f3 f4 f5:FE} {δ:DSt} {r1 r2 r3 r4 r5:R} {d:D} (h1:f1 δ=some r1) (h2:f2 δ=some r2) (h3:f3 δ=some r3) (h4:f4 δ=some r4) (h5:f5 δ=some r5) (hm:m [r1.view,r2.view,r3.view,r4.view,r5.view]=some d) (hb:(r1.isBw=false∧r2.isBw=false∧r3.isBw=false∧r4.isBw=false∧r5.isBw=false)∨d.flat=true):aq 5 m (ab f1 (ab f2 (ab f3 (ab f4 (ab f5 ah))))) δ=some (.sh d):=by
 simp only [iD,aG,ej,h1,h2,h3,h4,h5,Option.bind_some,gL,List.map_cons,List.map_nil,hm]
 rw [if_pos]
 exact ⟨rfl,hb.imp (fun h=>by simp [h]) id⟩
theorem eWk_0 {f:FE} {δ:DSt} {w:Wlk Int Int} (h:f δ=some (.sh (eWk w))):ad oIx f (ac (.int 0)) δ=some (.sh (ai w.1)):=aI h rfl (by simp [eWk,a0,eT,ai,Enc.int])
theorem gQ (ns:List Int):(ns.map D.int).all D.flat=true:=by
 rw [List.all_map];simp [Function.comp_def]
end Pg
end
section
set_option linter.all false
set_option Elab.async false
set_option maxRecDepth 100000
namespace Pg
open PySem PySem.Spec L2 Ew Mx
variable (c:CA)
theorem m7 {n:Int} {t:Tie} (h:0≤t.1∧t.1<t.2∧t.2<n):fz c [aJ t,.int n]=some (.bl true):=by
 have h1:=cQ c t.1
 have h2:=cQ c t.2
 have e1:(0:Int)≤t.1:=h.1
 have e2:t.1<t.2:=h.2.1
 have e3:t.2<n:=h.2.2
 simp [fz,mW,aw,iC,eM,eT,gc,h1,h2,e1,e2,e3]
theorem m8 {n:Int} {T:List Tie} (W:bc n T):aT c [.int n,.lst (T.map aJ)]=some [((("points" : Str)),D.int n),(("pairs" : Str),D.lst (T.map aJ))]:=by
 obtain ⟨w1,w2,w3,w4⟩:=W
 refine lO fun p=>?_
 have b2:(2:Nat)≤big:=by decide
 have hb:T.length≤big:=by rw [bH];omega
 have hn:=cQ c n
 have cm:=cmapN_of (ar 0) eL (ntup (fQ (eQ (ad oIx (aa 0) (ac (.int 0)))) (fQ (eQ (ad oIx (aa 0) (ac (.int 1)))) nanil))) (dIn 1 [] [some (.on p (.obj c.Web [(("points" : Str),D.int n)])),some (.sh (.int n)),some (.sh (.lst (T.map aJ)))]) aJ (fun _=>true) aJ T (fun t _=>by
  refine ⟨_,rfl,rfl,fun _=>?_⟩
  simp [dIn,eT,gc,b2])
 rw [List.filter_eq_self.2 (fun _ _=>rfl)] at cm
 have c1:=cg (fi:=aW (aa 2)) (g:=ar 0) (t:=eL) (fe:=aq 2 (fz c) (ab (aa 0) (ab (aa 1) ah))) (m:=1) (ix:=[1]) (δ:=[some (.on p (.obj c.Web [])),some (.sh (.int n)),some (.sh (.lst (T.map aJ)))]) (items:=T.map aJ) rfl (by simp;omega) (ce _ _ _ _ aJ (fun _=>true) (fun _=>D.bl true) T (fun t ht=>by
  refine ⟨_,rfl,rfl,fun _=>⟨.sh (.bl true),?_,rfl,rfl⟩⟩
  exact fA (r1:=.sh (aJ t)) (r2:=.sh (.int n)) rfl rfl (m7 c (w4 t ht)) (.inl ⟨rfl,rfl⟩)))
 rw [List.filter_eq_self.2 (fun _ _=>rfl)] at c1
 have a1:=all_true (f:=ab (bI (aW (aa 2)) (ar 0) eL (aq 2 (fz c) (ab (aa 0) (ab (aa 1) ah))) 1 [1]) ah) (δ:=[some (.on p (.obj c.Web [])),some (.sh (.int n)),some (.sh (.lst (T.map aJ)))]) (xs:=T) (by rw [aG,c1];rfl)
 have hF:cO c [some (.on p (.obj c.Web [])),some (.sh (.int n)),some (.sh (.lst (T.map aJ)))]=some (.nx [some (.on p (.obj c.Web [(("points" : Str),D.int n),(("pairs" : Str),D.lst (T.map aJ))])),some (.sh (.int n)),some (.sh (.lst (T.map aJ)))]):=by
  refine seq1 (δ1:=[some (.on p (.obj c.Web [])),some (.sh (.int n)),some (.sh (.lst (T.map aJ)))]) ?_ (seq1 (δ1:=[some (.on p (.obj c.Web [])),some (.sh (.int n)),some (.sh (.lst (T.map aJ)))]) ?_ (seq1 (δ1:=[some (.on p (.obj c.Web [])),some (.sh (.int n)),some (.sh (.lst (T.map aJ)))]) ?_ (seq1 (δ1:=[some (.on p (.obj c.Web [(("points" : Str),D.int n)])),some (.sh (.int n)),some (.sh (.lst (T.map aJ)))]) ?_ ?_)))
  ·
   simp [hn,w1,w2]
  ·
   have:¬((14:Int)<(T.length:Int)):=by omega
   simp [aw,eP,this]
  ·
   rw [bQ,dtNot_e,cI,a1];rfl
  ·
   simp
  ·
   have hlk:List.lookup ("pairs" : Str) [(("points" : Str),D.int n)]=none:=rfl
   simp [hlk,hb]
   erw [cm]
   rfl
 have e:iK 3 c.Web (cO c) [.int n,.lst (T.map aJ)] p=(match cO c [some (.on p (.obj c.Web [])),some (.sh (.int n)),some (.sh (.lst (T.map aJ)))] with
  | some (.nx (some (.on a (.obj C' fs))::_))=>if a=p∧C'=c.Web then some fs else none
  | _=>none):=rfl
 rw [e,hF]
 simp
theorem m9 {n:Int} {T:List Tie} (W:bc n T) {fr:DSt→Option (List R)} {δ:DSt} {r1 r2:R} (h:fr δ=some [r1,r2]) (h1:r1.view=.int n) (h2:r2.view=.lst (T.map aJ)) (b1:r1.isBw=false) (b2:r2.isBw=false) :
  dl c.Web 2 (aT c) fr δ=some (ao c n T):=by
 simp only [lN,h,Option.bind_some,List.map_cons,List.map_nil,h1,h2,m8 c W,k8,mN,b1,b2]
 simp [ao]
theorem md (ns:List Int) (h:ns.length<64):c8 (.lst (ns.map .int))=some (.fr ((srt ns).map .int)):=by
 show (nums (ns.map .int)).bind _=_
 rw [fB]
 simp [h]
end Pg
end
section
set_option linter.all false
set_option Elab.async false
set_option maxRecDepth 100000
namespace Pg
open PySem PySem.Spec L2 Ew Mx
variable (c:CA)
theorem mulR {i j:Int} (h0:0≤j) (h1:j≤1000000):bX (.int i) (.int j)=some (.sh (.int (i*j))):=by
 unfold bX
 simp only
 rw [if_pos (.inr ⟨Int.lt_of_lt_of_le (by decide) h0,Int.lt_of_le_of_lt h1 (by decide)⟩)]
theorem mulL {i j:Int} (h0:0≤i) (h1:i≤1000000):bX (.int i) (.int j)=some (.sh (.int (i*j))):=by
 unfold bX
 simp only
 rw [if_pos (.inl ⟨Int.lt_of_lt_of_le (by decide) h0,Int.lt_of_le_of_lt h1 (by decide)⟩)]
theorem modP {i j:Int} (h:0<j):oMod (.int i) (.int j)=some (.sh (.int (i % j))):=by
 unfold oMod
 simp only
 rw [if_pos h]
def gF:List Int:=[1000003,1000033,1000037,1000039,1000081,1000099,1000117,1000121,1000133,1000151,1000159,1000171,1000183,1000187,1000193,1000199]
theorem draw_eq (cell:Int) (k:Nat) (hk:k<16) {many:Int} (hm:0<many):∃ r,aB c [.int cell,.int k,.int many]=some (.int r)∧0≤r∧r<many:=by
 obtain ⟨p,hp,hp0⟩ : ∃ p,gF[k]?=some p∧0<p:=by
  have:∀ p∈gF,0<p:=by decide
  exact ⟨gF[k]'(by simpa [gF] using hk),by simp [gF] at hk ⊢,this _ (List.getElem_mem _)⟩
 refine ⟨(cell*48271+(k:Int)*69621) % p % many,?_,Int.emod_nonneg _ (by omega),Int.emod_lt_of_pos _ hm⟩
 have b16:(16:Nat)≤big:=by decide
 have hs:sset 3 (b9 (ab (ac (.int 1000003)) (ab (ac (.int 1000033)) (ab (ac (.int 1000037)) (ab (ac (.int 1000039)) (ab (ac (.int 1000081)) (ab (ac (.int 1000099)) (ab (ac (.int 1000117)) (ab (ac (.int 1000121)) (ab (ac (.int 1000133)) (ab (ac (.int 1000151)) (ab (ac (.int 1000159)) (ab (ac (.int 1000171)) (ab (ac (.int 1000183)) (ab (ac (.int 1000187)) (ab (ac (.int 1000193)) (ab (ac (.int 1000199)) ah))))))))))))))))) [some (.sh (.int cell)),some (.sh (.int k)),some (.sh (.int many)),none] =
   some (.nx [some (.sh (.int cell)),some (.sh (.int k)),some (.sh (.int many)),some (.sh (.tup (gF.map .int)))]):=by
  simp [b16,gF]
 refine bv (r:=.sh (.int _)) rfl (seq1 hs (jk ?_ rfl)) rfl
 refine aI (a:=.sh (.int ((cell*48271+(k:Int)*69621) % p))) (b:=.sh (.int many)) ?_ rfl (modP hm)
 refine aI (a:=.sh (.int (cell*48271+(k:Int)*69621))) (b:=.sh (.int p)) ?_ ?_ (modP hp0)
 ·
  refine aI (a:=.sh (.int (cell*48271))) (b:=.sh (.int ((k:Int)*69621))) ?_ ?_ rfl
  ·
   exact aI (a:=.sh (.int cell)) (b:=.sh (.int 48271)) rfl rfl (mulR (by omega) (by omega))
  ·
   exact aI (a:=.sh (.int k)) (b:=.sh (.int 69621)) rfl rfl (mulR (by omega) (by omega))
 ·
  refine aI (a:=.sh (.tup (gF.map .int))) (b:=.sh (.int (k:Int))) rfl ?_ ?_
  ·
   refine aI (a:=.sh (.int k)) (b:=.sh (.int 16)) rfl rfl ?_
   rw [show oMod (R.sh (D.int (k:Int))).view (R.sh (D.int 16)).view=_ from modP (by omega)]
   congr 3
   omega
  ·
   simp only [bm,oIx_t]
   rw [atIn,List.getElem?_map,hp]
   rfl
def Good (n:Int) (T:List Tie):Prop:=∀ t∈T,0≤t.1∧t.1<t.2∧t.2<n
theorem ng {n p q:Int} (h1:0≤p) (h2:p<n) (h3:0≤q) (h4:q<n) (h5:p≠q):0≤(tieB p q).1∧(tieB p q).1<(tieB p q).2∧(tieB p q).2<n:=by
 unfold tieB
 simp only
 omega
theorem ll {n:Int} {T:List Tie} {t:Tie} (h:Good n T) (ht:0≤t.1∧t.1<t.2∧t.2<n):Good n (T++[t]):=by
 intro u hu
 simp at hu
 rcases hu with hu | rfl
 ·
  exact h u hu
 ·
  exact ht
theorem kB {n:Int} {B:FS} {e0 e1 e2 e3 e5 e9:Option E} (ok:D→Prop)
  (hB:∀ d (T:List Tie) (x7 x8:Option E),ok d→Good n T→T.length≤900→∃ (T':List Tie) (y7 y8:Option E),B [e0,e1,e2,e3,some (.ow (T.map aJ)),e5,some (.sh d),x7,x8,e9]=some (.nx [e0,e1,e2,e3,some (.ow (T'.map aJ)),e5,some (.sh d),y7,y8,e9])∧Good n T'∧T'.length≤T.length+1) :
  ∀ (ds:List D) (T:List Tie) (x6 x7 x8:Option E),(∀ d∈ds,ok d)→Good n T→T.length+ds.length≤900→
  ∃ (T':List Tie) (y6 y7 y8:Option E),bC (ar 6) B ds [e0,e1,e2,e3,some (.ow (T.map aJ)),e5,x6,x7,x8,e9]=some (.nx [e0,e1,e2,e3,some (.ow (T'.map aJ)),e5,y6,y7,y8,e9])∧Good n T'∧T'.length≤T.length+ds.length
 | [],T,x6,x7,x8,_,hT,_=>⟨T,x6,x7,x8,rfl,hT,by simp⟩
 | d::ds,T,x6,x7,x8,hd,hT,hl=>by
  simp at hl
  obtain ⟨T1,y7,y8,h1,h2,h3⟩:=hB d T x7 x8 (hd d (by simp)) hT (by omega)
  obtain ⟨T',z6,z7,z8,i1,i2,i3⟩:=kB ok hB ds T1 (some (.sh d)) y7 y8 (fun d' h=>hd d' (by simp [h])) h2 (by omega)
  refine ⟨T',z6,z7,z8,?_,i2,by simp;omega⟩
  unfold bC
  have hg:ar 6 d [e0,e1,e2,e3,some (.ow (T.map aJ)),e5,x6,x7,x8,e9]=some [e0,e1,e2,e3,some (.ow (T.map aJ)),e5,some (.sh d),x7,x8,e9]:=rfl
  rw [hg]
  simp only [Option.bind_some]
  rw [h1]
  simp only [Option.bind_some,eW]
  exact i1
theorem turn_ne {n t k:Int} (h1:2≤n) (h2:n≤8) (ht:t=1∨((t=3∨t=5∨t=7)∧n % t≠0)):k*t % n≠(k+1)*t % n:=by
 have hn:n=2∨n=3∨n=4∨n=5∨n=6∨n=7∨n=8:=by omega
 rcases ht with rfl | ⟨rfl | rfl | rfl,hm⟩ <;> rcases hn with rfl | rfl | rfl | rfl | rfl | rfl | rfl <;> omega
theorem app_tie {n p q:Int} {T:List Tie} {e0 e1 e2 e3 e5 e6 e9:Option E} (hl:T.length≤900) :
  dR 4 (b9 (ab (bu ft (ab (aa 7) (ab (aa 8) ah))) (ab (bu gV (ab (aa 7) (ab (aa 8) ah))) ah))) [e0,e1,e2,e3,some (.ow (T.map aJ)),e5,e6,some (.sh (.int p)),some (.sh (.int q)),e9] =
   some (.nx [e0,e1,e2,e3,some (.ow ((T++[tieB p q]).map aJ)),e5,e6,some (.sh (.int p)),some (.sh (.int q)),e9]):=by
 have b2:(2:Nat)≤big:=by decide
 have b:T.length≤big:=by rw [bH];omega
 simp [dR,b2,b,tieB,←ma,←int_max]
theorem rngE {f:FE} {δ:DSt} {j:Int} (h:f δ=some (.sh (.int j))) (h2:j≤1000000) (h1:-1000000≤j):(f8 (ab f ah)) δ=some ((List.range j.toNat).map fun k=>D.int (0+((k:Nat):Int))):=by
 have hc:-(2 ^ 62:Int)≤j∧j<2 ^ 62:=⟨Int.le_trans (by decide) h1,Int.lt_of_le_of_lt h2 (by decide)⟩
 unfold f8
 simp only [aG,ej,h,Option.bind_some]
 rw [if_pos hc]
theorem cut14 (ds:List D):cutD ds none (some 14)=ds.take 14:=by
 unfold cutD HT.sIx
 simp
end Pg
end
section
set_option linter.all false
set_option Elab.async false
set_option maxRecDepth 100000
namespace Pg
open PySem PySem.Spec L2 Ew Mx
variable (c:CA)
def am (n:Int) (T:List Tie):D:=.tup [.int n,.lst (T.map aJ)]
theorem kC {ks:List Int} {r:Int} (h0:0≤r) (h1:r<(ks.length:Int)) (p:Int→Prop) (hp:∀ k∈ks,p k):∃ v,oIx (.tup (ks.map .int)) (.int r)=some (.sh (.int v))∧p v:=by
 have hr:r.toNat<ks.length:=by omega
 refine ⟨ks[r.toNat],?_,hp _ (List.getElem_mem _)⟩
 rw [oIx_t,m6 h0,List.getElem?_map,List.getElem?_eq_getElem hr]
 rfl
theorem g7 {fa fm:FE} {δ:DSt} {cell many:Int} (k:Int) (hk:0≤k∧k<16) (h1:fa δ=some (.sh (.int cell))) (h2:fm δ=some (.sh (.int many))) (hm:0<many) :
  ∃ r,aq 3 (aB c) (ab fa (ab (ac (.int k)) (ab fm ah))) δ=some (.sh (.int r))∧0≤r∧r<many:=by
 obtain ⟨r,e,r0,r1⟩:=draw_eq c cell k.toNat (by omega) hm
 rw [show ((k.toNat:Nat):Int)=k by omega] at e
 exact ⟨r,gD (r1:=.sh (.int cell)) (r2:=.sh (.int k)) (r3:=.sh (.int many)) h1 rfl h2 e (.inl ⟨rfl,rfl,rfl⟩),r0,r1⟩
theorem told_eq (cell least:Int) (hl:1≤least) (hl2:least≤8):∃ n T,fW c [.int cell,.int least]=some (am n T)∧bc n T∧least≤n:=by
 have b8:(8:Nat)≤big:=by decide
 have b4:(4:Nat)≤big:=by decide
 have b2:(2:Nat)≤big:=by decide
 obtain ⟨r1,d1,p1,q1⟩:=g7 c (fa:=aa 0) (fm:=ac (.int 8)) (δ:=[some (.sh (.int cell)),some (.sh (.int least)),none,none,none,none,none,none,none,none]) (cell:=cell) (many:=8) 1 (by omega) rfl rfl (by omega)
 obtain ⟨v1,x1,y1⟩:=kC (ks:=[4,5,3,6,2,7,1,8]) p1 (by simpa using q1) (fun v=>1≤v∧v≤8) (by decide)
 have s1:sset 2 (bu gV (ab (aa 1) (ab (ad oIx (b9 (ab (ac (.int 4)) (ab (ac (.int 5)) (ab (ac (.int 3)) (ab (ac (.int 6)) (ab (ac (.int 2)) (ab (ac (.int 7)) (ab (ac (.int 1)) (ab (ac (.int 8)) ah))))))))) (aq 3 (aB c) (ab (aa 0) (ab (ac (.int 1)) (ab (ac (.int 8)) ah))))) ah))) [some (.sh (.int cell)),some (.sh (.int least)),none,none,none,none,none,none,none,none] =
   some (.nx [some (.sh (.int cell)),some (.sh (.int least)),some (.sh (.int (max least v1))),none,none,none,none,none,none,none]):=by
  have hx:ad oIx (b9 (ab (ac (.int 4)) (ab (ac (.int 5)) (ab (ac (.int 3)) (ab (ac (.int 6)) (ab (ac (.int 2)) (ab (ac (.int 7)) (ab (ac (.int 1)) (ab (ac (.int 8)) ah))))))))) (aq 3 (aB c) (ab (aa 0) (ab (ac (.int 1)) (ab (ac (.int 8)) ah)))) [some (.sh (.int cell)),some (.sh (.int least)),none,none,none,none,none,none,none,none]=some (.sh (.int v1)):=aI (a:=.sh (.tup [.int 4,.int 5,.int 3,.int 6,.int 2,.int 7,.int 1,.int 8])) (by simp [b8]) d1 x1
  refine dH (r:=.sh (.int (max least v1))) ?_ rfl rfl
  rw [dcall2_e,aG,aG,hx]
  simp [←int_max]
 generalize hn:max least v1=n at s1
 have n1:1≤n:=by omega
 have n8:n≤8:=by omega
 obtain ⟨kind,d2,k0,k4⟩:=g7 c (fa:=aa 0) (fm:=ac (.int 4)) (δ:=[some (.sh (.int cell)),some (.sh (.int least)),some (.sh (.int n)),none,none,none,none,none,none,none]) (cell:=cell) (many:=4) 2 (by omega) rfl rfl (by omega)
 have s2:=dH (i:=3) d2 rfl (δ':=[some (.sh (.int cell)),some (.sh (.int least)),some (.sh (.int n)),some (.sh (.int kind)),none,none,none,none,none,none]) rfl
 have s3:sset 4 (cE ah) [some (.sh (.int cell)),some (.sh (.int least)),some (.sh (.int n)),some (.sh (.int kind)),none,none,none,none,none,none]=some (.nx [some (.sh (.int cell)),some (.sh (.int least)),some (.sh (.int n)),some (.sh (.int kind)),some (.ow []),none,none,none,none,none]):=by simp
 obtain ⟨r3,d3,p3,q3⟩:=g7 c (fa:=aa 0) (fm:=ac (.int 4)) (δ:=[some (.sh (.int cell)),some (.sh (.int least)),some (.sh (.int n)),some (.sh (.int kind)),some (.ow []),none,none,none,none,none]) (cell:=cell) (many:=4) 3 (by omega) rfl rfl (by omega)
 obtain ⟨t0,x3,y3⟩:=kC (ks:=[1,3,5,7]) p3 (by simpa using q3) (fun v=>v=1∨v=3∨v=5∨v=7) (by decide)
 have s4:sset 5 (ad oIx (b9 (ab (ac (.int 1)) (ab (ac (.int 3)) (ab (ac (.int 5)) (ab (ac (.int 7)) ah))))) (aq 3 (aB c) (ab (aa 0) (ab (ac (.int 3)) (ab (ac (.int 4)) ah))))) [some (.sh (.int cell)),some (.sh (.int least)),some (.sh (.int n)),some (.sh (.int kind)),some (.ow []),none,none,none,none,none] =
   some (.nx [some (.sh (.int cell)),some (.sh (.int least)),some (.sh (.int n)),some (.sh (.int kind)),some (.ow []),some (.sh (.int t0)),none,none,none,none]):=dH (aI (a:=.sh (.tup [.int 1,.int 3,.int 5,.int 7])) (by simp [b4]) d3 x3) rfl rfl
 have t0p:0<t0:=by omega
 obtain ⟨t,s5,ht⟩ : ∃ t,sif ((dI (aj (ad oEq (ad oMod (aa 2) (aa 5)) (ac (.int 0)))) (aj (ad oGt (aa 5) (ac (.int 1)))))) (sset 5 (ac (.int 1))) aE [some (.sh (.int cell)),some (.sh (.int least)),some (.sh (.int n)),some (.sh (.int kind)),some (.ow []),some (.sh (.int t0)),none,none,none,none] =
   some (.nx [some (.sh (.int cell)),some (.sh (.int least)),some (.sh (.int n)),some (.sh (.int kind)),some (.ow []),some (.sh (.int t)),none,none,none,none])∧(t=1∨((t=3∨t=5∨t=7)∧n % t≠0)):=by
  by_cases h1:n % t0=0
  ·
   by_cases h2:1<t0
   ·
    exact ⟨1,by simp [modP t0p,h1,h2],.inl rfl⟩
   ·
    exact ⟨t0,by simp [modP t0p,h1,h2],.inl (by omega)⟩
  ·
   refine ⟨t0,by simp [modP t0p,h1],?_⟩
   rcases y3 with rfl | h
   ·
    exact .inl rfl
   ·
    exact .inr ⟨h,h1⟩
 have tp:0<t∧t≤7:=by omega
 obtain ⟨T1,a6,a7,a8,s6,g1,l1⟩ : ∃ (T1:List Tie) (a6 a7 a8:Option E),sif ((dI (aj (ad oGt (aa 3) (ac (.int 0)))) (aj (ad oGt (aa 2) (ac (.int 1)))))) (bW (f8 (ab (ad be (ad fJ (aa 2) (ac (.int 1))) (bu ft (ab (ad fJ (aa 3) (ac (.int 1))) (ab (ac (.int 1)) ah)))) ah)) (ar 6) (av (iA 7 8 (ad oMod (ad bX (aa 6) (aa 5)) (aa 2)) (ad oMod (ad bX (ad be (aa 6) (ac (.int 1))) (aa 5)) (aa 2))) (dR 4 (b9 (ab (bu ft (ab (aa 7) (ab (aa 8) ah))) (ab (bu gV (ab (aa 7) (ab (aa 8) ah))) ah)))))) aE
   [some (.sh (.int cell)),some (.sh (.int least)),some (.sh (.int n)),some (.sh (.int kind)),some (.ow []),some (.sh (.int t)),none,none,none,none] =
   some (.nx [some (.sh (.int cell)),some (.sh (.int least)),some (.sh (.int n)),some (.sh (.int kind)),some (.ow (T1.map aJ)),some (.sh (.int t)),a6,a7,a8,none])∧Good n T1∧T1.length≤100:=by
  by_cases h1:0<kind
  ·
   by_cases h2:1<n
   ·
    have hf:(ad be (ad fJ (aa 2) (ac (.int 1))) (bu ft (ab (ad fJ (aa 3) (ac (.int 1))) (ab (ac (.int 1)) ah)))) [some (.sh (.int cell)),some (.sh (.int least)),some (.sh (.int n)),some (.sh (.int kind)),some (.ow []),some (.sh (.int t)),none,none,none,none]=some (.sh (.int (n-1+min (kind-1) 1))):=by
     simp [←ma]
    have hr:=rngE hf (by omega) (by omega)
    obtain ⟨T',y6,y7,y8,i1,i2,i3⟩:=kB (n:=n) (e0:=some (.sh (.int cell))) (e1:=some (.sh (.int least))) (e2:=some (.sh (.int n))) (e3:=some (.sh (.int kind))) (e5:=some (.sh (.int t))) (e9:=none)
     (B:=av (iA 7 8 (ad oMod (ad bX (aa 6) (aa 5)) (aa 2)) (ad oMod (ad bX (ad be (aa 6) (ac (.int 1))) (aa 5)) (aa 2))) (dR 4 (b9 (ab (bu ft (ab (aa 7) (ab (aa 8) ah))) (ab (bu gV (ab (aa 7) (ab (aa 8) ah))) ah)))))
     (fun d=>∃ k:Int,d=.int k) (by
      rintro d T x7 x8 ⟨k,rfl⟩ hT hTl
      refine ⟨T++[tieB (k*t % n) ((k+1)*t % n)],_,_,seq1 (δ1:=[some (.sh (.int cell)),some (.sh (.int least)),some (.sh (.int n)),some (.sh (.int kind)),some (.ow (T.map aJ)),some (.sh (.int t)),some (.sh (.int k)),some (.sh (.int (k*t % n))),some (.sh (.int ((k+1)*t % n))),none]) ?_ (app_tie (n:=n) hTl),?_,by simp⟩
      ·
       have m1:bX (.int k) (.int t)=some (.sh (.int (k*t))):=mulR (by omega) (by omega)
       have m2:bX (.int (k+1)) (.int t)=some (.sh (.int ((k+1)*t))):=mulR (by omega) (by omega)
       have m3:∀ i:Int,oMod (.int i) (.int n)=some (.sh (.int (i % n))):=fun i=>modP (by omega)
       simp [iA,m1,m2,m3]
      ·
       refine ll hT (ng (Int.emod_nonneg _ (by omega)) (Int.emod_lt_of_pos _ (by omega)) (Int.emod_nonneg _ (by omega)) (Int.emod_lt_of_pos _ (by omega)) (turn_ne (by omega) n8 ht)))
     ((List.range (n-1+min (kind-1) 1).toNat).map fun k=>D.int (0+((k:Nat):Int))) [] none none none (by
      intro d hd
      obtain ⟨k,_,rfl⟩:=List.mem_map.1 hd
      exact ⟨_,rfl⟩) (by intro u hu;simp at hu) (by simp;omega)
    refine ⟨T',y6,y7,y8,?_,i2,by simp at i3;omega⟩
    rw [bQ]
    have ht:(dI (aj (ad oGt (aa 3) (ac (.int 0)))) (aj (ad oGt (aa 2) (ac (.int 1))))) [some (.sh (.int cell)),some (.sh (.int least)),some (.sh (.int n)),some (.sh (.int kind)),some (.ow []),some (.sh (.int t)),none,none,none,none]=some true:=by simp [h1,h2]
    rw [ht]
    simp only [Option.bind_some]
    rw [if_pos trivial]
    unfold bW
    rw [hr]
    exact i1
   ·
    exact ⟨[],none,none,none,by simp [h1,h2],by intro u hu;simp at hu,by simp⟩
  ·
   exact ⟨[],none,none,none,by simp [h1],by intro u hu;simp at hu,by simp⟩
 obtain ⟨v9,x9,y9⟩:=kC (ks:=[9,4]) (r:=min kind 1) (by omega) (by simp;omega) (fun v=>0<v∧v≤15) (by decide)
 have s7:sset 9 (ad oIx (b9 (ab (ac (.int 9)) (ab (ac (.int 4)) ah))) (bu ft (ab (aa 3) (ab (ac (.int 1)) ah)))) [some (.sh (.int cell)),some (.sh (.int least)),some (.sh (.int n)),some (.sh (.int kind)),some (.ow (T1.map aJ)),some (.sh (.int t)),a6,a7,a8,none] =
   some (.nx [some (.sh (.int cell)),some (.sh (.int least)),some (.sh (.int n)),some (.sh (.int kind)),some (.ow (T1.map aJ)),some (.sh (.int t)),a6,a7,a8,some (.sh (.int v9))]):=dH (aI (a:=.sh (.tup [.int 9,.int 4])) (b:=.sh (.int (min kind 1))) (by simp [b2]) (by simp [←ma]) x9) rfl rfl
 obtain ⟨r8,d8,p8,q8⟩:=g7 c (fa:=aa 0) (fm:=ac (.int 4)) (δ:=[some (.sh (.int cell)),some (.sh (.int least)),some (.sh (.int n)),some (.sh (.int kind)),some (.ow (T1.map aJ)),some (.sh (.int t)),a6,a7,a8,some (.sh (.int v9))]) (cell:=cell) (many:=4) 8 (by omega) rfl rfl (by omega)
 obtain ⟨most,s8,hmost⟩ : ∃ most,sif (aj (ad oEq (aq 3 (aB c) (ab (aa 0) (ab (ac (.int 8)) (ab (ac (.int 4)) ah)))) (ac (.int 0)))) (sset 9 (ac (.int 15))) aE [some (.sh (.int cell)),some (.sh (.int least)),some (.sh (.int n)),some (.sh (.int kind)),some (.ow (T1.map aJ)),some (.sh (.int t)),a6,a7,a8,some (.sh (.int v9))] =
   some (.nx [some (.sh (.int cell)),some (.sh (.int least)),some (.sh (.int n)),some (.sh (.int kind)),some (.ow (T1.map aJ)),some (.sh (.int t)),a6,a7,a8,some (.sh (.int most))])∧0<most∧most≤15:=by
  have ht:(aj (ad oEq (aq 3 (aB c) (ab (aa 0) (ab (ac (.int 8)) (ab (ac (.int 4)) ah)))) (ac (.int 0)))) [some (.sh (.int cell)),some (.sh (.int least)),some (.sh (.int n)),some (.sh (.int kind)),some (.ow (T1.map aJ)),some (.sh (.int t)),a6,a7,a8,some (.sh (.int v9))]=some (decide (r8=0)):=by
   rw [cI,aI (a:=.sh (.int r8)) (b:=.sh (.int 0)) d8 rfl rfl]
   simp
  rw [bQ,ht]
  by_cases h0:r8=0
  ·
   exact ⟨15,by simp [h0],by omega,by omega⟩
  ·
   exact ⟨v9,by simp [h0],y9.1,y9.2⟩
 obtain ⟨cnt,d9,c0,c15⟩:=g7 c (fa:=aa 0) (fm:=aa 9) (δ:=[some (.sh (.int cell)),some (.sh (.int least)),some (.sh (.int n)),some (.sh (.int kind)),some (.ow (T1.map aJ)),some (.sh (.int t)),a6,a7,a8,some (.sh (.int most))]) (cell:=cell) (many:=most) 4 (by omega) rfl rfl (by omega)
 have hr2:=rngE d9 (by omega) (by omega)
 obtain ⟨T2,y6,y7,y8,i1,g2,i3⟩:=kB (n:=n) (e0:=some (.sh (.int cell))) (e1:=some (.sh (.int least))) (e2:=some (.sh (.int n))) (e3:=some (.sh (.int kind))) (e5:=some (.sh (.int t))) (e9:=some (.sh (.int most)))
  (B:=av (sset 7 (aq 3 (aB c) (ab (ad bX (ad be (aa 0) (ad bX (ac (.int 977)) (aa 6))) (ad be (aa 6) (ac (.int 3)))) (ab (ac (.int 5)) (ab (aa 2) ah))))) (av (sset 8 (aq 3 (aB c) (ab (ad bX (ad be (aa 0) (ad bX (ac (.int 31)) (aa 6))) (ad be (aa 6) (ac (.int 5)))) (ab (ac (.int 6)) (ab (aa 2) ah))))) (sif (aj (ad oNe (aa 7) (aa 8))) (dR 4 (b9 (ab (bu ft (ab (aa 7) (ab (aa 8) ah))) (ab (bu gV (ab (aa 7) (ab (aa 8) ah))) ah)))) aE)))
  (fun d=>∃ k:Int,d=.int k∧0≤k∧k≤100) (by
   rintro d T x7 x8 ⟨k,rfl,kk0,kk1⟩ hT hTl
   have m1:bX (.int 977) (.int k)=some (.sh (.int (977*k))):=mulL (by omega) (by omega)
   have m2:bX (.int 31) (.int k)=some (.sh (.int (31*k))):=mulL (by omega) (by omega)
   have m3:∀ i:Int,bX (.int i) (.int (k+3))=some (.sh (.int (i*(k+3)))):=fun i=>mulR (by omega) (by omega)
   have m4:∀ i:Int,bX (.int i) (.int (k+5))=some (.sh (.int (i*(k+5)))):=fun i=>mulR (by omega) (by omega)
   obtain ⟨u,du,u0,u1⟩:=g7 c (fa:=ad bX (ad be (aa 0) (ad bX (ac (.int 977)) (aa 6))) (ad be (aa 6) (ac (.int 3)))) (fm:=aa 2) (δ:=[some (.sh (.int cell)),some (.sh (.int least)),some (.sh (.int n)),some (.sh (.int kind)),some (.ow (T.map aJ)),some (.sh (.int t)),some (.sh (.int k)),x7,x8,some (.sh (.int most))]) (cell:=(cell+977*k)*(k+3)) (many:=n) 5 (by omega) (by simp [m1,m3]) rfl (by omega)
   obtain ⟨v,dv,v0,v1⟩:=g7 c (fa:=ad bX (ad be (aa 0) (ad bX (ac (.int 31)) (aa 6))) (ad be (aa 6) (ac (.int 5)))) (fm:=aa 2) (δ:=[some (.sh (.int cell)),some (.sh (.int least)),some (.sh (.int n)),some (.sh (.int kind)),some (.ow (T.map aJ)),some (.sh (.int t)),some (.sh (.int k)),some (.sh (.int u)),x8,some (.sh (.int most))]) (cell:=(cell+31*k)*(k+5)) (many:=n) 6 (by omega) (by simp [m2,m4]) rfl (by omega)
   by_cases huv:u=v
   ·
    refine ⟨T,some (.sh (.int u)),some (.sh (.int v)),seq1 (dH du rfl rfl) (seq1 (dH dv rfl rfl) ?_),hT,by omega⟩
    show sif _ _ _ [some (.sh (.int cell)),some (.sh (.int least)),some (.sh (.int n)),some (.sh (.int kind)),some (.ow (T.map aJ)),some (.sh (.int t)),some (.sh (.int k)),some (.sh (.int u)),some (.sh (.int v)),some (.sh (.int most))]=_
    simp [huv]
   ·
    refine ⟨T++[tieB u v],some (.sh (.int u)),some (.sh (.int v)),seq1 (dH du rfl rfl) (seq1 (dH dv rfl rfl) ?_),ll hT (ng u0 u1 v0 v1 huv),by simp⟩
    show sif _ _ _ [some (.sh (.int cell)),some (.sh (.int least)),some (.sh (.int n)),some (.sh (.int kind)),some (.ow (T.map aJ)),some (.sh (.int t)),some (.sh (.int k)),some (.sh (.int u)),some (.sh (.int v)),some (.sh (.int most))]=_
    rw [bQ]
    have ht:(aj (ad oNe (aa 7) (aa 8))) [some (.sh (.int cell)),some (.sh (.int least)),some (.sh (.int n)),some (.sh (.int kind)),some (.ow (T.map aJ)),some (.sh (.int t)),some (.sh (.int k)),some (.sh (.int u)),some (.sh (.int v)),some (.sh (.int most))]=some true:=by simp [huv]
    rw [ht]
    exact app_tie (n:=n) hTl)
  ((List.range cnt.toNat).map fun k=>D.int (0+((k:Nat):Int))) T1 a6 a7 a8 (by
   intro d hd
   obtain ⟨k,hk,rfl⟩:=List.mem_map.1 hd
   rw [List.mem_range] at hk
   exact ⟨_,rfl,by omega,by omega⟩) g1 (by simp;omega)
 obtain ⟨r7,d7,_,_⟩:=g7 c (fa:=aa 0) (fm:=ac (.int 2)) (δ:=[some (.sh (.int cell)),some (.sh (.int least)),some (.sh (.int n)),some (.sh (.int kind)),some (.ow (T2.map aJ)),some (.sh (.int t)),y6,y7,y8,some (.sh (.int most))]) (cell:=cell) (many:=2) 7 (by omega) rfl rfl (by omega)
 obtain ⟨T3,s10,g3⟩ : ∃ T3:List Tie,sif (aj (ad oEq (aq 3 (aB c) (ab (aa 0) (ab (ac (.int 7)) (ab (ac (.int 2)) ah)))) (ac (.int 0)))) (sset 4 (drev (aa 4) (dun d0 (ac (.int 1))))) aE [some (.sh (.int cell)),some (.sh (.int least)),some (.sh (.int n)),some (.sh (.int kind)),some (.ow (T2.map aJ)),some (.sh (.int t)),y6,y7,y8,some (.sh (.int most))] =
   some (.nx [some (.sh (.int cell)),some (.sh (.int least)),some (.sh (.int n)),some (.sh (.int kind)),some (.ow (T3.map aJ)),some (.sh (.int t)),y6,y7,y8,some (.sh (.int most))])∧Good n T3:=by
  have ht:(aj (ad oEq (aq 3 (aB c) (ab (aa 0) (ab (ac (.int 7)) (ab (ac (.int 2)) ah)))) (ac (.int 0)))) [some (.sh (.int cell)),some (.sh (.int least)),some (.sh (.int n)),some (.sh (.int kind)),some (.ow (T2.map aJ)),some (.sh (.int t)),y6,y7,y8,some (.sh (.int most))]=some (decide (r7=0)):=by
   rw [cI,aI (a:=.sh (.int r7)) (b:=.sh (.int 0)) d7 rfl rfl]
   simp
  rw [bQ,ht]
  by_cases h0:r7=0
  ·
   refine ⟨T2.reverse,?_,fun u hu=>g2 u (by simpa using hu)⟩
   simp [h0,drev,lZ]
  ·
   exact ⟨T2,by simp [h0],g2⟩
 refine ⟨n,T3.take 14,?_,⟨n1,n8,by simp;omega,fun u hu=>g3 u (List.mem_of_mem_take hu)⟩,by omega⟩
 refine bv (r:=.sh (am n (T3.take 14))) rfl (seq1 s1 (seq1 s2 (seq1 s3 (seq1 s4 (seq1 s5 (seq1 s6 (seq1 s7 (seq1 s8 (seq1 (δ1:=[some (.sh (.int cell)),some (.sh (.int least)),some (.sh (.int n)),some (.sh (.int kind)),some (.ow (T2.map aJ)),some (.sh (.int t)),y6,y7,y8,some (.sh (.int most))]) ?_ (seq1 s10 ?_)))))))))) rfl
 ·
  rw [ff]
  show bW _ _ _ [some (.sh (.int cell)),some (.sh (.int least)),some (.sh (.int n)),some (.sh (.int kind)),some (.ow (T1.map aJ)),some (.sh (.int t)),a6,a7,a8,some (.sh (.int most))]=_
  unfold bW
  rw [hr2]
  exact i1
 ·
  simp [bL,bM,cB,cut14,b2,am]
end Pg
end
section
set_option linter.all false
set_option Elab.async false
set_option maxRecDepth 100000
namespace Pg
open PySem PySem.Spec L2 Ew Mx
variable (c:CA)
theorem scr_0 (K:PySem.W.Frag) (ns:List Int) (r:DSt):gb K 0 (some (.scr K ns)::r)=some ns:=by
 unfold gb
 simp
theorem ic (K:PySem.W.Frag) (ns:List Int) {k:Int} (hk:0≤k):∃ v,aD c K ns k=some v:=by
 unfold aD runS
 show ∃ v,(match bT c K [some (.scr K ns),some (.sh (.int k))] with | some (.rt (.sh (.int j)))=>some j | _=>none)=some v
 by_cases h:k<(ns.length:Int)
 ·
  have hk2:k.toNat<ns.length:=by omega
  refine ⟨ns[k.toNat],?_⟩
  have:bT c K [some (.scr K ns),some (.sh (.int k))]=some (.rt (.sh (.int (ns[k.toNat])))):=by
   simp [bT,dlenS,dixS,scr_0,h,m6 hk,List.getElem?_eq_getElem hk2]
  rw [this]
 ·
  refine ⟨0,?_⟩
  have:bT c K [some (.scr K ns),some (.sh (.int k))]=some (.rt (.sh (.int 0))):=by
   simp [bT,dlenS,scr_0,h]
  rw [this]
theorem ie {K:PySem.W.Frag} {ns:List Int} {r:DSt} {f:FE} {k v:Int} (h:f (some (.scr K ns)::r)=some (.sh (.int k))) (hv:aD c K ns k=some v):cj K 0 (aD c K) f (some (.scr K ns)::r)=some (.sh (.int v)):=by
 unfold cj
 rw [h]
 simp [scr_0,hv]
theorem jH {n:Int} {e0:Option E}:∀ (ps:List Int) (last:Int) (x:Option E),(∀ p∈ps,last<p∧p<n)→ps.Pairwise (·<·)→
  ∃ y z,bC (ar 3) (av (sif ((bo (aj (aw is_bool (aa 3))) (bo (bf (aj (aw cY (aa 3)))) (bf (aj (dw oLt oLt (aa 2) (aa 3) (aa 1))))))) (aR (ac (.bl false))) aE) (sset 2 (aa 3))) (ps.map .int) [e0,some (.sh (.int n)),some (.sh (.int last)),x]=some (.nx [e0,some (.sh (.int n)),y,z])
 | [],last,x,_,_=>⟨_,_,rfl⟩
 | p::ps,last,x,h,hp=>by
  rw [List.pairwise_cons] at hp
  obtain ⟨y,z,ih⟩:=jH (n:=n) (e0:=e0) ps p (some (.sh (.int p))) (fun q hq=>⟨hp.1 q hq,(h q (by simp [hq])).2⟩) hp.2
  refine ⟨y,z,?_⟩
  rw [List.map_cons]
  unfold bC
  have hg:ar 3 (.int p) [e0,some (.sh (.int n)),some (.sh (.int last)),x]=some [e0,some (.sh (.int n)),some (.sh (.int last)),some (.sh (.int p))]:=rfl
  rw [hg]
  have h1:=h p (by simp)
  have hb:(av (sif ((bo (aj (aw is_bool (aa 3))) (bo (bf (aj (aw cY (aa 3)))) (bf (aj (dw oLt oLt (aa 2) (aa 3) (aa 1))))))) (aR (ac (.bl false))) aE) (sset 2 (aa 3))) [e0,some (.sh (.int n)),some (.sh (.int last)),some (.sh (.int p))]=some (.nx [e0,some (.sh (.int n)),some (.sh (.int p)),some (.sh (.int p))]):=by
   simp [aw,is_bool,cY,h1]
  simp only [Option.bind_some]
  rw [hb]
  simp only [Option.bind_some,eW]
  exact ih
theorem nh {n:Int} {ps:List Int} (h:∀ p∈ps,0≤p∧p<n) (hp:ps.Pairwise (·<·)):fX c [ai ps,.int n]=some (.bl true):=by
 obtain ⟨y,z,hl⟩:=jH (n:=n) (e0:=some (.sh (ai ps))) ps (-1) none (fun p hp=>⟨by have:=h p hp;omega,(h p hp).2⟩) hp
 refine bv (r:=.sh (.bl true)) rfl (seq1 (δ1:=[some (.sh (ai ps)),some (.sh (.int n)),none,none]) (by simp [aw,eP,ai]) (seq1 (δ1:=[some (.sh (ai ps)),some (.sh (.int n)),some (.sh (.int (-1))),none]) (by simp [lZ]) (seq1 (δ1:=[some (.sh (ai ps)),some (.sh (.int n)),y,z]) ?_ rfl))) rfl
 simp only [bW,cJ,fP,List.getElem?_cons_zero,List.getElem?_cons_succ,Option.bind_some,iE,bm,ai]
 simp only [Bool.false_eq_true,if_false,Option.bind_some]
 exact hl
end Pg
end
section
set_option linter.all false
set_option Elab.async false
set_option maxRecDepth 100000
namespace Pg
open PySem PySem.Spec L2 Ew Mx
variable (c:CA)
theorem ni (ns:List Int):(srt ns).Perm ns:=List.mergeSort_perm _ _
theorem pts_lt (n:Int):(pts n).Pairwise (·<·):=by
 unfold pts
 rw [List.pairwise_map]
 exact (List.pairwise_lt_range).imp (fun h=>by omega)
theorem isSet_srt {n:Int} {ns:List Int} (nd:ns.Nodup) (h:∀ p∈ns,0≤p∧p<n):isSet n (srt ns)=true:=by
 unfold isSet
 rw [decide_eq_true_eq]
 have hp:((pts n).filter (srt ns).contains).Perm ns:=by
  rw [List.perm_ext_iff_of_nodup (lT (gO n)) nd]
  intro a
  rw [List.mem_filter,cR]
  simp only [List.contains_iff_mem,(ni ns).mem_iff]
  constructor
  ·
   exact fun h=>h.2
  ·
   exact fun ha=>⟨h a ha,ha⟩
 exact (lJ hp ((pts_lt n).filter _ |>.imp (fun h=>by omega))).symm
end Pg
end
section
set_option linter.all false
set_option Elab.async false
set_option maxRecDepth 100000
namespace Pg
open PySem PySem.Spec L2 Ew Mx
variable (c:CA)
theorem setN1 {i:Nat} {g:FN} {δ δ':DSt} {d:D} (h:g δ=some d) (hd:δ.set i (some (.nw d))=δ'):gX i g δ=some (.nx δ'):=by rw [ssetN_e,h,Option.bind_some,hd]
theorem gG {i:Nat} {t:DSt→Option Bool} {F G:FS} {δ:DSt} {x:Option Res} (h:t (frz i δ)=some false) (h2:G δ=x):fx i t F G δ=x:=by rw [sifB_e,h];simpa using h2
theorem ifB_t {i:Nat} {t:DSt→Option Bool} {F G:FS} {δ:DSt} {x:Option Res} (h:t (frz i δ)=some true) (h2:F δ=x):fx i t F G δ=x:=by rw [sifB_e,h];simpa using h2
theorem cc {t u:DSt→Option Bool} {δ:DSt} {x:Option Bool} (h:t δ=some false) (h2:u δ=x):bo t u δ=x:=by rw [lL,h];simpa using h2
theorem eX {t:DSt→Option Bool} {δ:DSt} {b:Bool} (h:t δ=some b):bf t δ=some (!b):=by rw [dtNot_e,h];rfl
theorem aP {f:FE} {δ:DSt} {b:Bool} (h:f δ=some (.sh (.bl b))):aj f δ=some b:=by rw [cI,h];rfl
theorem eI {ans:D→Option Bool} {f:FE} {δ:DSt} {d:D} {b:Bool} (h:f δ=some (.sh d)) (ha:ans d=some b):aw ans f δ=some (.sh (.bl b)):=by
 unfold aw
 rw [h]
 simp [ha]
theorem me {f:FE} {δ:DSt} {a b:Bool} (h:f δ=some (.sh (.bl a))):aj (ad hZ f (ac (.bl b))) δ=some (!decide (a=b)):=by
 rw [cI,aI (a:=.sh (.bl a)) (b:=.sh (.bl b)) h rfl rfl]
 cases a <;> cases b <;> rfl
theorem fj {f:FE} {δ:DSt} {n:Int} {T:List Tie} (h:f δ=some (.sh (am n T))):ad oIx f (ac (.int 0)) δ=some (.sh (.int n)):=aI h rfl (by simp [am,eT])
theorem jo {f:FE} {δ:DSt} {n:Int} {T:List Tie} (h:f δ=some (.sh (am n T))):ad oIx f (ac (.int 1)) δ=some (.sh (.lst (T.map aJ))):=aI h rfl (by simp [am,gc])
theorem told_1s {f:FE} {δ:DSt} {n:Int} {T:List Tie} (h:f δ=some (.sh (am n T))):bL (ad oIx f (ac (.int 1))) (bM (ac (.int 1))) cB δ=some (.fr (T.tail.map aJ)):=by
 unfold bL
 rw [jo h]
 simp [bM,cB,cut1,List.map_tail]
theorem iQ {n:Int} {T:List Tie} (W:bc n T):bc n T.tail:=⟨W.1,W.2.1,by have:=W.2.2.1;simp;omega,fun t ht=>W.2.2.2 t (List.mem_of_mem_tail ht)⟩
end Pg
end
section
set_option linter.all false
set_option Elab.async false
set_option maxRecDepth 100000
namespace Pg
open PySem PySem.Spec L2 Ew Mx
variable (c:CA)
theorem eSt_e (s:Int×Int×Int):eSt s=.tup [.int s.1,.int s.2.1,.int s.2.2]:=rfl
theorem oNotIn_t2 (p a b:Int):oNotIn (.int p) (.tup [.int a,.int b])=some (.sh (.bl (decide (p∉[a,b])))):=by
 have h:Ew.okD (.tup [.int a,.int b])=true:=ET.okD (show max 1 1+1≤16 by decide) (a,b)
 show (if okD (.int p)=true∧okD (.tup [.int a,.int b])=true then some (R.sh (.bl (!([D.int a,D.int b]).any fun y=>eqP y (.int p)))) else none)=_
 rw [if_pos ⟨c9 p,h⟩]
 have:=Enc.any Enc.int p [a,b]
 simp only [Enc.int,List.map_cons,List.map_nil] at this
 rw [this]
 by_cases h:p∈[a,b] <;> simp [h]
theorem lm (L:cF Int Int) (p:Int) (hL:L.length≤1000):cN c [.lst (L.map eSt),.int p]=some (.lst ((aZ L p).map eSt)):=by
 refine bv (r:=.fr _) rfl ?_ rfl
 have:=cg (fi:=aW (aa 0)) (g:=ar 0) (t:=aj (ad oNotIn (aa 1) (dslT (aa 0) cB (bM (ac (.int 2)))))) (fe:=aa 0) (m:=1) (ix:=[1]) (δ:=[some (.sh (.lst (L.map eSt))),some (.sh (.int p))]) rfl (by simpa using hL) (ce _ _ _ _ eSt (fun s=>decide (p∉[s.1,s.2.1])) eSt L (fun s _=>by
  refine ⟨_,rfl,?_,fun _=>⟨.sh (eSt s),rfl,rfl,rfl⟩⟩
  have e1:dslT (aa 0) cB (bM (ac (.int 2))) [some (E.sh (eSt s)),some (.sh (.int p))]=some (.sh (.tup [.int s.1,.int s.2.1])):=rfl
  have e2:aj (ad oNotIn (aa 1) (dslT (aa 0) cB (bM (ac (.int 2))))) [some (E.sh (eSt s)),some (.sh (.int p))]=some (decide (p∉[s.1,s.2.1])):=by
   rw [cI,aI (a:=.sh (.int p)) (b:=.sh (.tup [.int s.1,.int s.2.1])) rfl e1 (oNotIn_t2 p s.1 s.2.1)]
   rfl
  exact e2))
 exact jk this rfl
theorem saw_eq (s:Int×Int×Int) (w:Wlk Int Int) (h1:w.1.length≤500) (h2:w.2.length≤500):cq c [eSt s,eWk w]=some (eWk (s.1::w.1,s.2.2::w.2)):=by
 have f1:=gQ w.1
 have f2:=gQ w.2
 have b2:(2:Nat)≤big:=by decide
 have b1:(1:Nat)≤big:=by decide
 have b3:1+w.1.length≤big:=by rw [bH];omega
 have b4:1+w.2.length≤big:=by rw [bH];omega
 have b5:w.1.length+1≤big:=by rw [bH];omega
 have b6:w.2.length+1≤big:=by rw [bH];omega
 simp only [List.all_map] at f1 f2
 simp [cq,gf,eSt_e,eWk,a0,eT,gc,atI_2,Enc.int,b1,b2,b3,b4,b5,b6,be] at f1 f2 ⊢
def outI:Option (Wlk Int Int)→D:=outW Enc.int Enc.int
theorem kD {L:cF Int Int} {a:Int} {ends:List Int} {w:Wlk Int Int} (hU:Uniq L) (hL:L.length≤90) (h:ey 100 L a ends=some w):w.1.length=w.2.length+1∧w.2.length≤L.length:=by
 have B:=gM (L:=L) (a:=a) (ends:=ends) (n:=100) (by omega)
 rw [h] at B
 obtain ⟨b,_,sw⟩:=B
 have h1:=List.Nodup.length_le_of_subset sw.stepsNodup (l₂:=L) (fun s hs=>(sw.step s hs).1)
 have h2:=congrArg List.length sw.names
 simp at h2
 exact ⟨sw.len,by omega⟩
theorem ncall2 {m:List D→Option D} {f1 f2:FE} {δ:DSt} {r1 r2:R} {d:D} (h1:f1 δ=some r1) (h2:f2 δ=some r2) (hm:m [r1.view,r2.view]=some d) (hb:r1.isBw=false∧r2.isBw=false):f9 2 m (ab f1 (ab f2 ah)) δ=some d:=by
 simp [ncall_e,h1,h2,hm,hb]
theorem ncall3 {m:List D→Option D} {f1 f2 f3:FE} {δ:DSt} {r1 r2 r3:R} {d:D} (h1:f1 δ=some r1) (h2:f2 δ=some r2) (h3:f3 δ=some r3) (hm:m [r1.view,r2.view,r3.view]=some d) (hb:r1.isBw=false∧r2.isBw=false∧r3.isBw=false):f9 3 m (ab f1 (ab f2 (ab f3 ah))) δ=some d:=by
 simp [ncall_e,h1,h2,h3,hm,hb]
theorem run_rn {k:Nat} {F:FS} {ds:List D} {δ:DSt} {d:D} (h0:ds.map (fun d=>some (E.sh d))++List.replicate (k-ds.length) none=δ) (h:F δ=some (.rn d)):Ew.runN k F ds=some d:=by
 unfold Ew.runN
 rw [h0,h]
theorem st_0 {f:FE} {δ:DSt} {s:Int×Int×Int} (h:f δ=some (.sh (eSt s))):ad oIx f (ac (.int 0)) δ=some (.sh (.int s.1)):=aI h rfl (by simp [eSt_e,eT])
theorem st_1 {f:FE} {δ:DSt} {s:Int×Int×Int} (h:f δ=some (.sh (eSt s))):ad oIx f (ac (.int 1)) δ=some (.sh (.int s.2.1)):=aI h rfl (by simp [eSt_e,gc])
theorem nj {L M:cF Int Int} (h:∀ s∈M,s∈L) (U:Uniq L):Uniq M:=fun s hs t ht e=>U s (h s hs) t (h t ht) e
theorem ig {L:cF Int Int} {p:Int}:∀ s∈aZ L p,s∈L:=fun s hs=>(cx.1 hs).1
theorem retN1 {g:FN} {δ:DSt} {d:D} (h:g δ=some d):iH g δ=some (.rn d):=by rw [sretN_e,h];rfl
theorem nl {L:cF Int Int} (hU:Uniq L) (hL:L.length≤90) (met:List Int) (s:Int×Int×Int) :
  fV c [.lst (L.map eSt),ai met,eSt s]=some (outI (db 100 L met s)):=by
 have hb:=lm c L s.1 (by omega)
 have hl:(aZ L s.1).length≤90:=Nat.le_trans cZ hL
 have hw:cp c [.lst ((aZ L s.1).map eSt),.int s.2.1,ai met]=some (outI (ey 100 (aZ L s.1) s.2.1 met)):=jl c Enc.int Enc.int (by decide) (by decide) _ _ _ hl
 refine run_rn rfl (seq1 (δ1:=[some (.sh (.lst (L.map eSt))),some (.sh (ai met)),some (.sh (eSt s)),some (.sh (outI (ey 100 (aZ L s.1) s.2.1 met)))]) ?_ ?_)
 ·
  exact dH (gD (r1:=.sh _) (r2:=.sh _) (r3:=.sh _) (fA (r1:=.sh _) (r2:=.sh _) rfl (st_0 (f:=aa 2) rfl) hb (.inl ⟨rfl,rfl⟩)) (st_1 (f:=aa 2) rfl) rfl hw (.inl ⟨rfl,rfl,rfl⟩)) rfl rfl
 ·
  refine retN1 ?_
  unfold db
  cases e:ey 100 (aZ L s.1) s.2.1 met with
  | none=>rfl
  | some w=>
   obtain ⟨l1,l2⟩:=kD (nj ig hU) hl e
   have h3:=saw_eq c s w (by omega) (by omega)
   have t1:aj (ad oIs (aa 3) (ac .non)) [some (.sh (.lst (L.map eSt))),some (.sh (ai met)),some (.sh (eSt s)),some (.sh (outI (some w)))]=some false:=rfl
   rw [nif_e,t1,Option.bind_some,if_neg Bool.false_ne_true]
   exact ncall2 (r1:=.sh (eSt s)) (r2:=.sh (eWk w)) rfl rfl h3 ⟨rfl,rfl⟩
end Pg
end
section
set_option linter.all false
set_option Elab.async false
set_option maxRecDepth 100000
namespace Pg
open PySem PySem.Spec L2 Ew Mx
variable (c:CA)
def CNe:Prop:=c.Numbers≠c.Pocket∧c.Numbers≠c.Web∧c.Pocket≠c.Web
theorem kE (hc:CNe c) {n:Int} {T:List Tie} {one other:Int} (h:cz n one other=true):cr c [ao c n T,.int one,.int other]=some (.bl true):=by
 have a1:=eH c n one other T
 rw [h] at a1
 have h1:=cQ c one
 have h2:=cQ c other
 have h3:lW c (ao c n T)=some true:=by
  unfold ao lW
  simp [Ne.symm hc.2.1,Ne.symm hc.2.2]
 simp [cr,gg,aw,h3,h1,h2,a1]
theorem fC (hc:CNe c) {n:Int} {T:List Tie} {one other:Int} (h:cz n one other=true):cw c [ao c n T,.int one,.int other]=some .non:=by
 have:=kE c hc (T:=T) h
 simp [cw,gh,this]
def ck (ps:List Int):D:=.obj c.Numbers [("points",ai ps)]
def bY (ps:List Int) (d:Int):D:=.obj c.Pocket [("points",ai ps),("door",.int d)]
theorem nv (ps:List Int):cy c [ai ps]=some [(("points" : Str),ai ps)]:=by
 refine lO fun p=>?_
 have f:=gQ ps
 simp only [List.all_map] at f
 simp [iK,eB,ai] at f ⊢
theorem ny (ps:List Int) (d:Int):b7 c [ai ps,.int d]=some [(("points" : Str),ai ps),(("door" : Str),.int d)]:=by
 refine lO fun p=>?_
 have f:=gQ ps
 simp only [List.all_map] at f
 have hne:¬(Str.ofString "door" = Str.ofString "points"):=by decide
 simp [iK,eV,ai,hne] at f ⊢
def pr2 (s:Int×Int×Int):Int×Int:=(s.1,s.2.1)
def rch (T:List Tie) (d a:Int):List Int:=reach 100 ((aZ (au T) d).map pr2) a
def aO (n:Int) (T:List Tie) (one other d:Int):List Int:=(pts n).filter fun p=>decide (p∉rch T d one++rch T d other++[d])
theorem rch_eq {n:Int} {T:List Tie} (W:bc n T) (d a:Int):dX c [.int a,.lst ((aZ (au T) d).map eSt)]=some (ai (rch T d a)):=by
 have hl:=dq T
 have hT:=W.2.2.1
 have hb:(aZ (au T) d).length≤90:=by have:=cZ (L:=au T) (p:=d);omega
 exact n9 c Enc.int (by decide) eSt pr2 (fun s=>⟨[.int s.2.2],rfl⟩) (aZ (au T) d) a hb
theorem jp {n:Int} {T:List Tie} (W:bc n T) (d a:Int):lU ((aZ (au T) d).map pr2) a (rch T d a):=reach_ok (by
 have hl:=dq T
 have hT:=W.2.2.1
 have:=cZ (L:=au T) (p:=d)
 simp
 omega)
theorem rch_pt {n:Int} {T:List Tie} (W:bc n T) {d a:Int} (ha:0≤a∧a<n):∀ p∈rch T d a,0≤p∧p<n:=by
 refine (jp W d a).min (fun p=>0≤p∧p<n) ha ?_
 rintro s hs -
 obtain ⟨t,ht,rfl⟩:=List.mem_map.1 hs
 exact (f7 W t (ig t ht)).2.2
theorem rch_len {n:Int} {T:List Tie} (W:bc n T) {d a:Int} (ha:0≤a∧a<n):(rch T d a).length≤8:=by
 have h1:=List.Nodup.length_le_of_subset (jp W d a).nd (l₂:=pts n) (fun p hp=>cR.2 (rch_pt W ha p hp))
 rw [dW] at h1
 have:=W.2.1
 omega
theorem nz {n:Int} {T:List Tie} (W:bc n T) {one other:Int} (h1:0≤one∧one<n) (h2:0≤other∧other<n) (d:Int):bS c [ao c n T,.int one,.int other,.int d]=some (ai (aO n T one other d)):=by
 have hl:=dq T
 have hT:=W.2.2.1
 have d3:=jG c n T (by omega)
 have d4:=lm c (au T) d (by omega)
 have d5:=rch_eq c W d one
 have d6:=rch_eq c W d other
 have d7:=bV c n T (by have:=W.1;omega) (by have:=W.2.1;omega)
 have l1:=rch_len W (d:=d) h1
 have l2:=rch_len W (d:=d) h2
 have hb:(pts n).length≤1000:=by rw [dW];have:=W.2.1;omega
 have b1:(1:Nat)≤big:=by decide
 refine bv (r:=.fr _) rfl (seq1 (δ1:=[some (.sh (ao c n T)),some (.sh (.int one)),some (.sh (.int other)),some (.sh (.int d)),some (.sh (.lst ((aZ (au T) d).map eSt))),none]) ?_ (seq1 (δ1:=[some (.sh (ao c n T)),some (.sh (.int one)),some (.sh (.int other)),some (.sh (.int d)),some (.sh (.lst ((aZ (au T) d).map eSt))),some (.ow ((rch T d one++rch T d other++[d]).map .int))]) ?_ ?_)) rfl
 ·
  exact dH (fA (r1:=.sh _) (r2:=.sh _) (jF (r1:=.sh _) rfl d3 (.inl rfl)) rfl d4 (.inl ⟨rfl,rfl⟩)) rfl rfl
 ·
  refine dH (r:=.fr _) (aI (a:=.fr _) (b:=.fr [.int d]) (aI (a:=.sh _) (b:=.sh _) (fA (r1:=.sh _) (r2:=.sh _) rfl rfl d5 (.inl ⟨rfl,rfl⟩)) (fA (r1:=.sh _) (r2:=.sh _) rfl rfl d6 (.inl ⟨rfl,rfl⟩)) (gN _ _ (by simp only [List.length_map];omega))) ?_ (gN _ _ (by simp only [List.length_map,List.length_append,List.length_cons,List.length_nil];omega))) rfl ?_
  ·
   rw [dlst_e]
   simp [b1]
  ·
   simp
 ·
  have c1:=cg (fi:=aW (aq 1 (aX c) (ab (aa 0) ah))) (g:=ar 0) (t:=aj (ad oNotIn (aa 0) (aa 1))) (fe:=aa 0) (m:=1) (ix:=[5]) (δ:=[some (.sh (ao c n T)),some (.sh (.int one)),some (.sh (.int other)),some (.sh (.int d)),some (.sh (.lst ((aZ (au T) d).map eSt))),some (.ow ((rch T d one++rch T d other++[d]).map .int))]) (items:=(pts n).map .int) (by
    rw [cJ,jF (r1:=.sh (ao c n T)) rfl d7 (.inl rfl)];rfl) (by simpa using hb) (ce _ _ _ _ D.int (fun p=>decide (p∉rch T d one++rch T d other++[d])) D.int (pts n) (fun x _=>by
   refine ⟨_,rfl,?_,fun _=>⟨.sh (.int x),rfl,rfl,rfl⟩⟩
   have:=Enc.int.oNotIn (by decide) x (rch T d one++rch T d other++[d])
   exact aP (aI (a:=.sh (.int x)) (b:=.bw ((rch T d one++rch T d other++[d]).map .int)) rfl rfl (this.trans (by simp)))))
  exact jk c1 rfl
structure kF (n:Int) (T:List Tie) (one other:Int) (ps:List Int) (d:Int):Prop where
 lt:ps.Pairwise (·<·)
 pt:∀ p∈ps,0≤p∧p<n
 pos:0<ps.length
 no1:one∉ps
 no2:other∉ps
 nod:d∉ps
 dpt:0≤d∧d<n
 lv:∀ t∈T,cS ps t=true→d=t.1∨d=t.2
theorem poc_ok {n:Int} {T:List Tie} (W:bc n T) {one other d:Int} (h1:0≤one∧one<n) (h2:0≤other∧other<n) (hd:0≤d∧d<n) (h:0<(aO n T one other d).length):kF n T one other (aO n T one other d) d:=by
 have mem:∀ p,p∈aO n T one other d↔(0≤p∧p<n)∧p∉rch T d one∧p∉rch T d other∧p≠d:=by
  intro p
  unfold aO
  rw [List.mem_filter,cR]
  simp
 have k1:=jp W d one
 have k2:=jp W d other
 have stp:∀ s∈au T,s.1≠d→s.2.1≠d→s.2.1∈aO n T one other d→s.1∈aO n T one other d:=by
  intro s hs n1 n2 hm
  rw [mem] at hm ⊢
  obtain ⟨_,m1,m2,m3⟩:=hm
  have hb:pr2 s∈(aZ (au T) d).map pr2:=List.mem_map.2 ⟨s,cx.2 ⟨hs,Ne.symm n1,Ne.symm n2⟩,rfl⟩
  have hp:=f7 W s hs
  refine ⟨⟨hp.1,hp.2.1⟩,fun q=>m1 (k1.cl _ hb q),fun q=>m2 (k2.cl _ hb q),n1⟩
 refine ⟨(pts_lt n).sublist List.filter_sublist,fun p hp=>((mem p).1 hp).1,h,fun q=>((mem one).1 q).2.1 k1.ha,fun q=>((mem other).1 q).2.2.1 k2.ha,fun q=>((mem d).1 q).2.2.2 rfl,hd,?_⟩
 intro t ht hlv
 by_cases e1:d=t.1
 ·
  exact .inl e1
 ·
  by_cases e2:d=t.2
  ·
   exact .inr e2
  ·
   exfalso
   obtain ⟨i,hi⟩:=List.getElem?_of_mem ht
   have s1:(t.1,t.2,(i:Int))∈au T:=bE.2 ⟨i,t,hi,rfl,.inl ⟨rfl,rfl⟩⟩
   have s2:(t.2,t.1,(i:Int))∈au T:=bE.2 ⟨i,t,hi,rfl,.inr ⟨rfl,rfl⟩⟩
   have a1:=stp _ s1 (Ne.symm e1) (Ne.symm e2)
   have a2:=stp _ s2 (Ne.symm e2) (Ne.symm e1)
   unfold cS at hlv
   by_cases q1:t.1∈aO n T one other d
   ·
    have q2:=a2 q1
    simp [q1,q2] at hlv
   ·
    have q2:t.2∉aO n T one other d:=fun q=>q1 (a1 q)
    simp [q1,q2] at hlv
end Pg
end
section
set_option linter.all false
set_option Elab.async false
set_option maxRecDepth 100000
namespace Pg
open PySem PySem.Spec L2 Ew Mx
variable (c:CA)
theorem cut_to (ds:List D) (k:Nat):cutD ds none (some (k:Int))=ds.take k:=by
 unfold cutD
 rw [HT.sIx_none,HT.sIx_nat,List.drop_zero,Nat.sub_zero]
 by_cases h:k≤ds.length
 ·
  rw [Nat.min_eq_left h]
 ·
  rw [Nat.min_eq_right (by omega),List.take_of_length_le (Nat.le_refl _),List.take_of_length_le (by omega)]
theorem cut_from (ds:List D) (k:Nat):cutD ds (some (k:Int)) none=ds.drop k:=by
 unfold cutD
 rw [HT.sIx_none,HT.sIx_nat]
 by_cases h:k≤ds.length
 ·
  rw [Nat.min_eq_left h,List.take_of_length_le (by simp)]
 ·
  rw [Nat.min_eq_right (by omega),List.drop_of_length_le (Nat.le_refl _),List.drop_of_length_le (by omega)]
  simp
theorem cut_in (ds:List D):cutD ds (some 1) (some (-1))=ds.tail.dropLast:=by
 unfold cutD HT.sIx
 cases ds with
 | nil=>rfl
 | cons d ds=>
  have e1:(if (1:Int)<0 then ((1:Int)+((d::ds).length:Nat)).toNat else min (1:Int).toNat (d::ds).length)=1:=by simp
  have e2:(if (-1:Int)<0 then ((-1:Int)+((d::ds).length:Nat)).toNat else min (-1:Int).toNat (d::ds).length)=ds.length:=by simp;omega
  show List.take ((if (-1:Int)<0 then ((-1:Int)+((d::ds).length:Nat)).toNat else min (-1:Int).toNat (d::ds).length)-(if (1:Int)<0 then ((1:Int)+((d::ds).length:Nat)).toNat else min (1:Int).toNat (d::ds).length)) (List.drop (if (1:Int)<0 then ((1:Int)+((d::ds).length:Nat)).toNat else min (1:Int).toNat (d::ds).length) (d::ds))=_
  rw [e1,e2,List.dropLast_eq_take]
  rfl
theorem eY {row:List Int} {a:Int} (h:a∈row) (hl:row.length≤1000):dB (ai row) (.int a)=some (.sh (.int (row.idxOf a:Nat))):=by
 show (nums (row.map .int)).bind _=_
 rw [fB]
 simp [h,hl]
theorem iR {f:FE} {δ:DSt} {ps:List Int} {a:Int} (h:f δ=some (.sh (ai ps))) (h1:ps.head?=some a):ad oIx f (ac (.int 0)) δ=some (.sh (.int a)):=by
 refine aI h rfl ?_
 cases ps with
 | nil=>cases h1
 | cons p ps=>cases h1;simp [ai,eT]
theorem mf {f:FE} {δ:DSt} {ps:List Int} {b:Int} (h:f δ=some (.sh (ai ps))) (h1:ps.getLast?=some b):ad oIx f (dun d0 (ac (.int 1))) δ=some (.sh (.int b)):=by
 refine aI (b:=.sh (.int (-1))) h rfl ?_
 simp [ai,lV,getLast?_map',h1]
theorem nB {f g:FE} {δ:DSt} {ps:List Int} {k:Nat} (h:f δ=some (.sh (ai ps))) (h1:g δ=some (.sh (.int k))):bL f cB (bM g) δ=some (.fr ((ps.take k).map .int)):=by
 unfold bL bM cB
 simp only [h,h1,Option.bind_some,bm,ai,cut_to,List.map_take]
theorem kG {f g:FE} {δ:DSt} {ps:List Int} {k:Nat} (h:f δ=some (.sh (ai ps))) (h1:g δ=some (.sh (.int k))):bL f (bM g) cB δ=some (.fr ((ps.drop k).map .int)):=by
 unfold bL bM cB
 simp only [h,h1,Option.bind_some,bm,ai,cut_from,List.map_drop]
theorem slice_in {f:FE} {δ:DSt} {ps:List Int} (h:f δ=some (.sh (ai ps))):bL f (bM (ac (.int 1))) (bM (dun d0 (ac (.int 1)))) δ=some (.fr ((ps.tail.dropLast).map .int)):=by
 unfold bL bM
 have e:dun d0 (ac (.int 1)) δ=some (.sh (.int (-1))):=rfl
 simp only [h,e,kh,Option.bind_some,bm,ai,cut_in]
 rw [←List.map_tail,List.map_dropLast]
section
variable {row ps:List Int} {a b:Int} (ha:a∈row) (hb:b∈row) (h1:ps.head?=some a) (h2:ps.getLast?=some b) (hl:row.length≤100)
include ha hb h1 h2 hl
theorem nC {e2:Option E}:aj (ad oGt (ad dB (aa 0) (ad oIx (aa 1) (ac (.int 0)))) (ad dB (aa 0) (ad oIx (aa 1) (dun d0 (ac (.int 1)))))) [some (.sh (ai row)),some (.sh (ai ps)),e2]=some (decide (row.idxOf b<row.idxOf a)):=by
 rw [cI,aI (a:=.sh (.int (row.idxOf a:Nat))) (b:=.sh (.int (row.idxOf b:Nat))) (aI (a:=.sh (ai row)) rfl (iR rfl h1) (eY ha (by omega))) (aI (a:=.sh (ai row)) rfl (mf rfl h2) (eY hb (by omega))) (oGt_ii _ _)]
 simp
theorem nD (m:List D→Option D) (hle:¬row.idxOf b<row.idxOf a) (hp:ps.length≤100):Ew.run 3 (eD m c) [ai row,ai ps]=some (ai (ins row a ps.tail.dropLast)):=by
 have t:=nC ha hb h1 h2 hl (e2:=none)
 rw [decide_eq_false hle] at t
 have hlen:(ins row a ps.tail.dropLast).length≤200:=by
  unfold ins
  simp
  omega
 refine bv (r:=.fr ((ins row a ps.tail.dropLast).map .int)) rfl (seq1 (δ1:=[some (.sh (ai row)),some (.sh (ai ps)),none]) ?_ (seq1 (δ1:=[some (.sh (ai row)),some (.sh (ai ps)),some (.sh (.int ((row.idxOf a+1:Nat):Int)))]) ?_ ?_)) rfl
 ·
  rw [bQ]
  erw [t]
  rfl
 ·
  exact dH (aI (a:=.sh (.int (row.idxOf a:Nat))) (aI (a:=.sh (ai row)) rfl (iR rfl h1) (eY ha (by omega))) rfl rfl) rfl (by simp)
 ·
  refine jk (aI (a:=.fr _) (b:=.fr _) (aI (a:=.fr _) (b:=.fr _) (nB (k:=row.idxOf a+1) rfl rfl) (slice_in rfl) (gN _ _ ?_)) (kG (k:=row.idxOf a+1) rfl rfl) ((gN _ _ ?_).trans ?_)) rfl
  ·
   simp only [List.length_map,List.length_take,List.length_dropLast,List.length_tail];omega
  ·
   simp only [List.length_append,List.length_map,List.length_take,List.length_drop,List.length_dropLast,List.length_tail];omega
  ·
   unfold ins
   simp
end
theorem nE {row ps:List Int} {a b:Int} (ha:a∈row) (hb:b∈row) (h1:ps.head?=some a) (h2:ps.getLast?=some b) (hl:row.length≤100) (hp:ps.length≤100):eE c [ai row,ai ps]=some (ai (eR row ps)):=by
 unfold eR
 rw [h1,h2]
 simp only
 by_cases hle:row.idxOf b<row.idxOf a
 ·
  rw [if_pos hle]
  have r1:ps.reverse.head?=some b:=by rw [List.head?_reverse];exact h2
  have r2:ps.reverse.getLast?=some a:=by rw [List.getLast?_reverse];exact h1
  have hb1:gB c [ai row,ai ps.reverse]=some (ai (ins row b ps.reverse.tail.dropLast)):=nD c hb ha r1 r2 hl (fun _=>none) (by omega) (by simpa using hp)
  have t:=nC ha hb h1 h2 hl (e2:=none)
  rw [decide_eq_true hle] at t
  have rv:lc (aa 1) [some (.sh (ai row)),some (.sh (ai ps)),none]=some (.fr (ps.reverse.map .int)):=by
   have hp2:ps.length≤1000:=by omega
   simp [lc,ai,hp2]
  unfold eE
  have hs:(aR (aq 2 (gB c) (ab (aa 0) (ab (lc (aa 1)) ah)))) [some (.sh (ai row)),some (.sh (ai ps)),none]=some (.rt (.sh (ai (ins row b ps.reverse.tail.dropLast)))):=
   jk (fA (r1:=.sh (ai row)) (r2:=.fr (ps.reverse.map .int)) rfl rv hb1 (.inl ⟨rfl,rfl⟩)) rfl
  refine bv (r:=.sh (ai (ins row b ps.reverse.tail.dropLast))) rfl ?_ rfl
  unfold eD
  rw [e8,bQ]
  erw [t]
  show ((aR _ _).bind _)=_
  erw [hs]
  rfl
 ·
  rw [if_neg hle]
  exact nD c ha hb h1 h2 hl _ hle hp
end Pg
end
section
set_option linter.all false
set_option Elab.async false
set_option maxRecDepth 100000
namespace Pg
open PySem PySem.Spec L2 Ew Mx
variable (c:CA)
theorem fldPts {f:FE} {δ:DSt} {n:Int} {T:List Tie} (h:f δ=some (.sh (ao c n T))):bh (isC c.Web) "points" f δ=some (.sh (.int n)):=by
 rw [ja,h]
 simp [ao,jm]
def RowE (e:Option E) (row:List Int):Prop:=e=some (.ow (row.map .int))∨e=some (.sh (ai row))
def bodyRow:FS:=(av (sset 5 (ad oIx (bI (aW (aa 4)) (ar 0) ((dI (aj (ad oIn (ad oIx (aa 0) (ac (.int 0))) (aa 1))) (aj (ad oNotIn (ad oIx (aa 0) (ac (.int 1))) (aa 1))))) (aa 0) 1 [3]) (ac (.int 0)))) (dO 5 (dO 3 (sset 3 (aq 2 (eE c) (ab (aa 3) (ab (ad oIx (dnw (f9 3 (fV c) (ab (aa 4) (ab (aa 3) (ab (aa 5) ah))))) (ac (.int 0))) ah)))))))
theorem way_ends {L:cF Int Int} (hU:Uniq L) (hL:L.length≤90) {met:List Int} {s:Int×Int×Int} {w:Wlk Int Int} (h:db 100 L met s=some w):w.1.head?=some s.1∧(∃ b,w.1.getLast?=some b∧b∈met)∧w.1.length≤92:=by
 unfold db at h
 cases e:ey 100 (aZ L s.1) s.2.1 met with
 | none=>rw [e] at h;cases h
 | some v=>
  rw [e] at h
  cases h
  have hl:(aZ L s.1).length≤90:=Nat.le_trans cZ hL
  obtain ⟨l1,l2⟩:=kD (nj ig hU) hl e
  have B:=gM (L:=aZ L s.1) (a:=s.2.1) (ends:=met) (n:=100) (by omega)
  rw [e] at B
  obtain ⟨b,hb,sw⟩:=B
  refine ⟨rfl,⟨b,?_,hb⟩,by simp;omega⟩
  have:=sw.last
  simp only [List.getLast?_cons,this,Option.getD_some]
theorem row_body {n:Int} {T:List Tie} (W:bc n T) {e1 e2 e3 x5:Option E} {row:List Int} (he:RowE e3 row) (hr:row.length≤20) {s:Int×Int×Int} {rest:cF Int Int} (hs:(au T).filter (fun s=>decide (s.1∈row)&&decide (s.2.1∉row))=s::rest) {w:Wlk Int Int} (hw:db 100 (au T) row s=some w) :
  ∃ y5,bodyRow c [some (.sh (ao c n T)),e1,e2,e3,some (.sh (.lst ((au T).map eSt))),x5]=some (.nx [some (.sh (ao c n T)),e1,e2,some (.sh (ai (eR row w.1))),some (.sh (.lst ((au T).map eSt))),y5]):=by
 have hl:=dq T
 have hT:=W.2.2.1
 have hmem:s∈au T∧s.1∈row:=by
  have:s∈(au T).filter (fun s=>decide (s.1∈row)&&decide (s.2.1∉row)):=by rw [hs];simp
  rw [List.mem_filter] at this
  simp at this
  exact ⟨this.1,this.2.1⟩
 obtain ⟨w1,⟨b,w2,w3⟩,w4⟩:=way_ends (f6 T) (by omega) hw
 have c1:=cg (fi:=aW (aa 4)) (g:=ar 0) (t:=(dI (aj (ad oIn (ad oIx (aa 0) (ac (.int 0))) (aa 1))) (aj (ad oNotIn (ad oIx (aa 0) (ac (.int 1))) (aa 1))))) (fe:=aa 0) (m:=1) (ix:=[3]) (δ:=[some (.sh (ao c n T)),e1,e2,e3,some (.sh (.lst ((au T).map eSt))),x5]) rfl (by simp;omega) (ce _ _ _ _ eSt (fun s=>decide (s.1∈row)&&decide (s.2.1∉row)) eSt (au T) (fun s _=>by
  refine ⟨[some (.sh (eSt s)),e3],rfl,?_,fun _=>⟨.sh (eSt s),rfl,rfl,rfl⟩⟩
  have i1:=Enc.int.oIn (by decide) s.1 row
  have i2:=Enc.int.oNotIn (by decide) s.2.1 row
  have x:∃ r,aa 1 [some (.sh (eSt s)),e3]=some r∧r.view=ai row:=by
   rcases he with rfl | rfl
   ·
    exact ⟨.bw (row.map .int),rfl,rfl⟩
   ·
    exact ⟨.sh (ai row),rfl,rfl⟩
  obtain ⟨r,x1,x2⟩:=x
  rw [lK,aP (b:=decide (s.1∈row)) (aI (a:=.sh (.int s.1)) (b:=r) (st_0 (f:=aa 0) rfl) x1 (by rw [x2];exact i1)),Option.bind_some]
  by_cases q:s.1∈row
  ·
   rw [if_pos (by simpa using q),aP (b:=!decide (s.2.1∈row)) (aI (a:=.sh (.int s.2.1)) (b:=r) (st_1 (f:=aa 0) rfl) x1 (by rw [x2];exact i2))]
   simp [q]
  ·
   rw [if_neg (by simpa using q)]
   simp [q]))
 rw [hs] at c1
 have d2:=nE c hmem.2 w3 w1 w2 (by omega) (by omega)
 have d3:=nl c (f6 T) (by omega) row s
 rw [hw] at d3
 refine ⟨some (.sh (eSt s)),seq1 (δ1:=[some (.sh (ao c n T)),e1,e2,e3,some (.sh (.lst ((au T).map eSt))),some (.sh (eSt s))]) (dH (aI (b:=.sh (.int 0)) c1 rfl (by simp [eT];rfl)) rfl rfl) ?_⟩
 rw [ff,ff]
 have hf:frz 3 (frz 5 [some (.sh (ao c n T)),e1,e2,e3,some (.sh (.lst ((au T).map eSt))),some (.sh (eSt s))])=[some (.sh (ao c n T)),e1,e2,some (.sh (ai row)),some (.sh (.lst ((au T).map eSt))),some (.sh (eSt s))]:=by
  rcases he with rfl | rfl <;> rfl
 rw [hf]
 refine dH (fA (r1:=.sh (ai row)) (r2:=.sh (ai w.1)) rfl ?_ d2 (.inl ⟨rfl,rfl⟩)) rfl rfl
 refine eWk_0 ?_
 rw [dnw_e,ncall3 (r1:=.sh (.lst ((au T).map eSt))) (r2:=.sh (ai row)) (r3:=.sh (eSt s)) rfl rfl rfl d3 ⟨rfl,rfl,rfl⟩]
 rfl
theorem nF {n:Int} {T:List Tie} (W:bc n T) {e1 e2:Option E}:∀ (f:Nat) (row out:List Int) (e3 x5:Option E),eS 100 (au T) n.toNat f row=some out→RowE e3 row→
  ∃ y3 y5,cG (aj (ad oLt (az eM (ab (aa 3) ah)) (bh (isC c.Web) "points" (aa 0)))) (bodyRow c) f [some (.sh (ao c n T)),e1,e2,e3,some (.sh (.lst ((au T).map eSt))),x5]=some (.nx [some (.sh (ao c n T)),e1,e2,y3,some (.sh (.lst ((au T).map eSt))),y5])∧RowE y3 out
 | 0,row,out,e3,x5,h,_=>by cases h
 | f+1,row,out,e3,x5,h,he=>by
  have h1:=W.1
  have h2:=W.2.1
  unfold eS at h
  unfold cG
  have ht:aj (ad oLt (az eM (ab (aa 3) ah)) (bh (isC c.Web) "points" (aa 0))) [some (.sh (ao c n T)),e1,e2,e3,some (.sh (.lst ((au T).map eSt))),x5]=some (decide (row.length<n.toNat)):=by
   have x:az eM (ab (aa 3) ah) [some (.sh (ao c n T)),e1,e2,e3,some (.sh (.lst ((au T).map eSt))),x5]=some (.sh (.int row.length)):=by
    rcases he with rfl | rfl <;> simp [ai]
   rw [cI,aI x (fldPts c (f:=aa 0) rfl) (oLt_ii _ _)]
   simp only [Option.bind_some,lM]
   congr 1
   exact decide_eq_decide.2 (by omega)
  rw [ht,Option.bind_some]
  by_cases hlt:row.length<n.toNat
  ·
   rw [if_pos hlt] at h
   rw [if_pos (by simpa using hlt)]
   split at h
   ·
    cases h
   ·
    rename_i s rest hs
    split at h
    ·
     cases h
    ·
     rename_i w hw
     obtain ⟨y5,hb⟩:=row_body c W he (by omega) hs hw (e1:=e1) (e2:=e2) (x5:=x5)
     rw [hb]
     simp only [Option.bind_some,eW]
     exact nF W f _ out _ y5 h (.inr rfl)
  ·
   rw [if_neg hlt] at h
   cases h
   rw [if_neg (by simpa using hlt)]
   exact ⟨e3,x5,rfl,he⟩
theorem kI {n:Int} {T:List Tie} (W:bc n T) {one other:Int} {out:List Int} (h:eS 100 (au T) n.toNat 100 [one,other]=some out):dg c [ao c n T,.int one,.int other]=some (ai out):=by
 have hT:=W.2.2.1
 have d3:=jG c n T (by omega)
 have b2:(2:Nat)≤big:=by decide
 obtain ⟨y3,y5,hl,hy⟩:=nF c W (e1:=some (.sh (.int one))) (e2:=some (.sh (.int other))) 100 [one,other] out _ none h (.inl rfl)
 have hr:gZ c [some (.sh (ao c n T)),some (.sh (.int one)),some (.sh (.int other)),none,none,none]=jw 3 [some (.sh (ao c n T)),some (.sh (.int one)),some (.sh (.int other)),y3,some (.sh (.lst ((au T).map eSt))),y5]:=by
  refine seq1 (δ1:=[some (.sh (ao c n T)),some (.sh (.int one)),some (.sh (.int other)),some (.ow ([one,other].map .int)),none,none]) ?_ (seq1 (δ1:=[some (.sh (ao c n T)),some (.sh (.int one)),some (.sh (.int other)),some (.ow ([one,other].map .int)),some (.sh (.lst ((au T).map eSt))),none]) ?_ (seq1 hl rfl))
  ·
   refine dH (r:=.fr ([one,other].map .int)) ?_ rfl rfl
   simp [b2]
  ·
   exact dH (jF (r1:=.sh (ao c n T)) rfl d3 (.inl rfl)) rfl rfl
 rcases hy with rfl | rfl
 ·
  exact bv (r:=.fr (out.map .int)) rfl hr rfl
 ·
  exact bv (r:=.sh (ai out)) rfl hr rfl
def g8 (n:Int) (T:List Tie) (one other:Int):Option Int:=(pts n).find? fun d=>decide (0<(aO n T one other d).length)
noncomputable def jI:FS:=(av (sset 4 (aq 4 (bS c) (ab (aa 0) (ab (aa 1) (ab (aa 2) (ab (aa 3) ah)))))) (sif (aj (ad oGt (az eM (ab (aa 4) ah)) (ac (.int 0)))) (iH (dl c.Pocket 2 (b7 c) (ab (aa 4) (ab (aa 3) ah)))) aE))
theorem jq {n:Int} {T:List Tie} (W:bc n T) {one other:Int} (h1:0≤one∧one<n) (h2:0≤other∧other<n):∀ (ds:List Int) (x3 x4:Option E),
  (∃ d,ds.find? (fun d=>decide (0<(aO n T one other d).length))=some d∧bC (ar 3) (jI c) (ds.map .int) [some (.sh (ao c n T)),some (.sh (.int one)),some (.sh (.int other)),x3,x4]=some (.rn (bY c (aO n T one other d) d)))∨
  (ds.find? (fun d=>decide (0<(aO n T one other d).length))=none∧∃ y3 y4,bC (ar 3) (jI c) (ds.map .int) [some (.sh (ao c n T)),some (.sh (.int one)),some (.sh (.int other)),x3,x4]=some (.nx [some (.sh (ao c n T)),some (.sh (.int one)),some (.sh (.int other)),y3,y4]))
 | [],x3,x4=>.inr ⟨rfl,x3,x4,rfl⟩
 | d::ds,x3,x4=>by
  have d1:=nz c W h1 h2 d
  have hs:sset 4 (aq 4 (bS c) (ab (aa 0) (ab (aa 1) (ab (aa 2) (ab (aa 3) ah))))) [some (.sh (ao c n T)),some (.sh (.int one)),some (.sh (.int other)),some (.sh (.int d)),x4]=some (.nx [some (.sh (ao c n T)),some (.sh (.int one)),some (.sh (.int other)),some (.sh (.int d)),some (.sh (ai (aO n T one other d)))]):=
   dH (call4 (r1:=.sh (ao c n T)) (r2:=.sh (.int one)) (r3:=.sh (.int other)) (r4:=.sh (.int d)) rfl rfl rfl rfl d1 (.inl ⟨rfl,rfl,rfl,rfl⟩)) rfl rfl
  have ht:aj (ad oGt (az eM (ab (aa 4) ah)) (ac (.int 0))) [some (.sh (ao c n T)),some (.sh (.int one)),some (.sh (.int other)),some (.sh (.int d)),some (.sh (ai (aO n T one other d)))]=some (decide (0<(aO n T one other d).length)):=by
   simp [ai]
  have hg:ar 3 (.int d) [some (.sh (ao c n T)),some (.sh (.int one)),some (.sh (.int other)),x3,x4]=some [some (.sh (ao c n T)),some (.sh (.int one)),some (.sh (.int other)),some (.sh (.int d)),x4]:=rfl
  by_cases hp:0<(aO n T one other d).length
  ·
   refine .inl ⟨d,by rw [List.find?_cons_of_pos];simpa using hp,?_⟩
   rw [List.map_cons]
   unfold bC
   rw [hg]
   have hi:=ny c (aO n T one other d) d
   have hb:jI c [some (.sh (ao c n T)),some (.sh (.int one)),some (.sh (.int other)),some (.sh (.int d)),x4]=some (.rn (bY c (aO n T one other d) d)):=by
    refine seq1 hs ?_
    rw [bQ,ht,Option.bind_some,if_pos (by simpa using hp)]
    refine retN1 ?_
    simp only [lN,aG,ej,fP,List.getElem?_cons_zero,List.getElem?_cons_succ,Option.bind_some,List.map_cons,List.map_nil,bm,hi]
    simp [bY]
   simp only [Option.bind_some]
   rw [hb]
   rfl
  ·
   have hb:jI c [some (.sh (ao c n T)),some (.sh (.int one)),some (.sh (.int other)),some (.sh (.int d)),x4]=some (.nx [some (.sh (ao c n T)),some (.sh (.int one)),some (.sh (.int other)),some (.sh (.int d)),some (.sh (ai (aO n T one other d)))]):=by
    refine seq1 hs ?_
    rw [bQ,ht,Option.bind_some,if_neg (by simpa using hp)]
    rfl
   have e:(d::ds).find? (fun d=>decide (0<(aO n T one other d).length))=ds.find? (fun d=>decide (0<(aO n T one other d).length)):=by
    rw [List.find?_cons_of_neg];simpa using hp
   rw [e]
   have e2:bC (ar 3) (jI c) ((d::ds).map .int) [some (.sh (ao c n T)),some (.sh (.int one)),some (.sh (.int other)),x3,x4]=bC (ar 3) (jI c) (ds.map .int) [some (.sh (ao c n T)),some (.sh (.int one)),some (.sh (.int other)),some (.sh (.int d)),some (.sh (ai (aO n T one other d)))]:=by
    rw [List.map_cons]
    show (ar 3 (.int d) _).bind _=_
    rw [hg]
    simp only [Option.bind_some]
    rw [hb]
    rfl
   rw [e2]
   exact jq W h1 h2 ds _ _
theorem j4 {n one other:Int} (h:cz n one other=true):(0≤one∧one<n)∧(0≤other∧other<n)∧one≠other:=by
 unfold cz g5 at h
 simp at h
 exact ⟨h.1,h.2.1,h.2.2⟩
section
variable (hc:CNe c) {n:Int} {T:List Tie} (W:bc n T) {one other:Int} (h:cz n one other=true)
include hc W h
theorem mh {d:Int} (hp:g8 n T one other=some d):eG c [ao c n T,.int one,.int other]=some (bY c (aO n T one other d) d):=by
 obtain ⟨p1,p2,_⟩:=j4 h
 have d1:=fC c hc (T:=T) h
 have d2:=bV c n T (by have:=W.1;omega) (by have:=W.2.1;omega)
 refine run_rn rfl (seq1 (δ1:=[some (.sh (ao c n T)),some (.sh (.int one)),some (.sh (.int other)),none,none]) ?_ ?_)
 ·
  unfold sdrop
  rw [gD (r1:=.sh (ao c n T)) (r2:=.sh (.int one)) (r3:=.sh (.int other)) rfl rfl rfl d1 (.inl ⟨rfl,rfl,rfl⟩)]
  rfl
 ·
  rcases jq c W p1 p2 (pts n) none none with ⟨d',e1,e2⟩ | ⟨e1,_⟩
  ·
   unfold g8 at hp
   rw [e1] at hp
   cases hp
   have hf:bW (aW (aq 1 (aX c) (ab (aa 0) ah))) (ar 3) (jI c) [some (.sh (ao c n T)),some (.sh (.int one)),some (.sh (.int other)),none,none]=some (.rn (bY c (aO n T one other d) d)):=by
    unfold bW
    rw [cJ,jF (r1:=.sh (ao c n T)) rfl d2 (.inl rfl)]
    exact e2
   rw [e8]
   erw [hf]
   rfl
  ·
   unfold g8 at hp
   rw [e1] at hp
   cases hp
theorem mi (hp:g8 n T one other=none) {row:List Int} (hr:eS 100 (au T) n.toNat 100 [one,other]=some row):eG c [ao c n T,.int one,.int other]=some (ck c row):=by
 obtain ⟨p1,p2,_⟩:=j4 h
 have d1:=fC c hc (T:=T) h
 have d2:=bV c n T (by have:=W.1;omega) (by have:=W.2.1;omega)
 have d3:=kI c W hr
 have d4:=nv c row
 refine run_rn rfl (seq1 (δ1:=[some (.sh (ao c n T)),some (.sh (.int one)),some (.sh (.int other)),none,none]) ?_ ?_)
 ·
  unfold sdrop
  rw [gD (r1:=.sh (ao c n T)) (r2:=.sh (.int one)) (r3:=.sh (.int other)) rfl rfl rfl d1 (.inl ⟨rfl,rfl,rfl⟩)]
  rfl
 ·
  rcases jq c W p1 p2 (pts n) none none with ⟨d',e1,_⟩ | ⟨_,y3,y4,e2⟩
  ·
   unfold g8 at hp
   rw [e1] at hp
   cases hp
  ·
   have hf:bW (aW (aq 1 (aX c) (ab (aa 0) ah))) (ar 3) (jI c) [some (.sh (ao c n T)),some (.sh (.int one)),some (.sh (.int other)),none,none]=some (.nx [some (.sh (ao c n T)),some (.sh (.int one)),some (.sh (.int other)),y3,y4]):=by
    unfold bW
    rw [cJ,jF (r1:=.sh (ao c n T)) rfl d2 (.inl rfl)]
    exact e2
   refine seq1 hf (retN1 ?_)
   have a1:ab (aq 3 (dg c) (ab (aa 0) (ab (aa 1) (ab (aa 2) ah)))) ah [some (.sh (ao c n T)),some (.sh (.int one)),some (.sh (.int other)),y3,y4]=some [.sh (ai row)]:=by
    rw [aG,gD (r1:=.sh (ao c n T)) (r2:=.sh (.int one)) (r3:=.sh (.int other)) rfl rfl rfl d3 (.inl ⟨rfl,rfl,rfl⟩)]
    rfl
   rw [lN,a1]
   simp [d4,ck]
end
end Pg
end
section
set_option linter.all false
set_option Elab.async false
set_option maxRecDepth 100000
namespace Pg
open PySem PySem.Spec L2 Ew Mx
variable (c:CA)
theorem all_eq {f:DSt→Option (List R)} {δ:DSt} {bs:List Bool} (h:f δ=some [.fr (bs.map .bl)]):az i9 f δ=some (.sh (.bl (bs.all id))):=by
 rw [eu,h]
 show i9 (.lst (bs.map .bl))=_
 simp [i9,gP]
theorem any_eq {f:DSt→Option (List R)} {δ:DSt} {bs:List Bool} (h:f δ=some [.fr (bs.map .bl)]):az oAny f δ=some (.sh (.bl (bs.any id))):=by
 rw [eu,h]
 show oAny (.lst (bs.map .bl))=_
 simp [oAny,gP]
theorem eJ {a:Int} {ns:List Int}:oIn (.int a) (.lst (ns.map .int))=some (.sh (.bl (decide (a∈ns)))):=Enc.int.oIn (by decide) a ns
def dJ (T:List Tie) (row:List Int) (k:Nat) (x:Int):Bool:=(bj T [x]).any (fun p=>decide (p∈row.take k))&&(bj T [x]).any (fun p=>decide (p∈row.drop (k+1)))
theorem ix_nat {f g:FE} {δ:DSt} {ps:List Int} {k:Nat} {x:Int} (h:f δ=some (.sh (ai ps))) (h1:g δ=some (.sh (.int k))) (hx:ps[k]?=some x):ad oIx f g δ=some (.sh (.int x)):=by
 refine aI h h1 ?_
 simp [ai,atIn,hx]
theorem any_in {fi:DSt→Option (List D)} {fe:FE} {ix:List Nat} {δ:DSt} {ps ns:List Int} (h1:fi δ=some (ps.map .int)) (hl:ps.length≤1000) (h2:∀ p,fe (some (.sh (.int p))::ix.map fun i=>(δ[i]?).join)=some (.sh (.bl (decide (p∈ns))))) :
  az oAny (ab (bI fi (ar 0) eL fe 1 ix) ah) δ=some (.sh (.bl (ps.any fun p=>decide (p∈ns)))):=by
 have c1:=cg (fi:=fi) (g:=ar 0) (t:=eL) (fe:=fe) (m:=1) (ix:=ix) (δ:=δ) h1 (by simpa using hl) (ce _ _ _ _ D.int (fun _=>true) (fun p=>D.bl (decide (p∈ns))) ps (fun p _=>by
  refine ⟨some (.sh (.int p))::ix.map fun i=>(δ[i]?).join,?_,rfl,fun _=>⟨.sh (.bl (decide (p∈ns))),h2 p,rfl,rfl⟩⟩
  unfold dIn ar
  simp))
 have e1:(ps.filter fun _=>true)=ps:=by simp
 rw [e1] at c1
 rw [any_eq (bs:=ps.map fun p=>decide (p∈ns)) (by rw [aG,c1];simp [Function.comp_def])]
 simp [Function.comp_def]
theorem ln (T:List Tie) (ps:List Int):(bj T ps).length≤T.length:=by rw [oa];exact List.length_filter_le _ _
theorem mj {n:Int} {T:List Tie} (W:bc n T) {row:List Int} {k:Nat} {x:Int} (hk:row[k]?=some x):bJ c [ao c n T,ai row,.int k]=some (.bl (dJ T row k x)):=by
 have hT:=W.2.2.1
 have d1:bp c [ao c n T,ai [x]]=some (ai (bj T [x])):=gE c n T [x] (by omega)
 have hl:=ln T [x]
 have b1:(1:Nat)≤big:=by decide
 refine bv (r:=.sh (.bl (dJ T row k x))) rfl (seq1 (δ1:=[some (.sh (ao c n T)),some (.sh (ai row)),some (.sh (.int k)),some (.sh (ai (bj T [x]))),none,none]) ?_ (seq1 (δ1:=[some (.sh (ao c n T)),some (.sh (ai row)),some (.sh (.int k)),some (.sh (ai (bj T [x]))),some (.sh (.bl ((bj T [x]).any (fun p=>decide (p∈row.take k))))),none]) ?_ (seq1 (δ1:=[some (.sh (ao c n T)),some (.sh (ai row)),some (.sh (.int k)),some (.sh (ai (bj T [x]))),some (.sh (.bl ((bj T [x]).any (fun p=>decide (p∈row.take k))))),some (.sh (.bl ((bj T [x]).any (fun p=>decide (p∈row.drop (k+1))))))]) ?_ ?_))) rfl
 ·
  refine dH (fA (r1:=.sh (ao c n T)) (r2:=.fr [.int x]) rfl ?_ d1 (.inl ⟨rfl,rfl⟩)) rfl rfl
  rw [dlst_e,aG,ix_nat (f:=aa 1) (g:=aa 2) rfl rfl hk]
  simp [b1]
 ·
  exact dH (any_in rfl (by omega) fun p=>aI (a:=.sh (.int p)) rfl (nB (f:=aa 1) (g:=aa 2) (k:=k) rfl rfl) eJ) rfl rfl
 ·
  exact dH (any_in rfl (by omega) fun p=>aI (a:=.sh (.int p)) rfl (kG (f:=aa 1) (k:=k+1) rfl (aI (a:=.sh (.int k)) rfl rfl rfl)) eJ) rfl rfl
 ·
  refine jk ?_ rfl
  unfold dJ
  cases (bj T [x]).any (fun p=>decide (p∈row.take k)) <;> rfl
structure gi (n:Int) (one other:Int) (row:List Int):Prop where
 perm:row.Perm (pts n)
 hd:row.head?=some one
 lt:row.getLast?=some other
theorem gi.nd {n one other:Int} {row:List Int} (h:gi n one other row):row.Nodup:=(List.Perm.nodup_iff h.perm).2 (gO n)
theorem gi.len {n one other:Int} {row:List Int} (h:gi n one other row):row.length=n.toNat:=by rw [h.perm.length_eq,dW]
theorem gi.srt {n one other:Int} {row:List Int} (h:gi n one other row):srt row=pts n:=(lJ h.perm.symm ((pts_lt n).imp (fun h=>by omega))).symm
def rowB (n:Int) (T:List Tie) (row:List Int):Bool:=(List.range (n-1-1).toNat).all fun k=>dJ T row (k+1) (row.getD (k+1) 0)
theorem lkN {A:Type} {a:A}:List.lookup ("points" : Str) [("points",a)]=some a:=rfl
theorem lkN2 {A:Type} {a:A}:List.lookup ("shows" : Str) [(("points" : Str),a)]=none:=rfl
theorem fldN {f:FE} {δ:DSt} {ps:List Int} (h:f δ=some (.sh (ck c ps))):bh (isC c.Numbers) "points" f δ=some (.sh (ai ps)):=by
 rw [ja,h]
 simp [ck,lkN]
theorem rng2E {f g:FE} {δ:DSt} {i j:Int} (h1:f δ=some (.sh (.int i))) (h2:g δ=some (.sh (.int j))) (hi:-1000000≤i∧i≤1000000) (hj:-1000000≤j∧j≤1000000):kd (ab f (ab g ah)) δ=some ((List.range (j-i).toNat).map fun k=>D.int (i+((k:Nat):Int))):=by
 unfold kd
 rw [aG,h1,Option.bind_some,aG,h2]
 show (if _ then _ else _)=_
 rw [if_pos (by omega)]
theorem ml {f:FE} {δ:DSt} {ps:List Int} (h:f δ=some (.sh (ai ps))) (hl:ps.length<64):az c8 (ab f ah) δ=some (.fr ((srt ps).map .int)):=by
 rw [eu,aG,h]
 exact md ps hl
theorem kJ (ns ms:List Int):oNe (.lst (ns.map .int)) (.lst (ms.map .int))=some (.sh (.bl (!decide (ns=ms)))):=by
 have h1:=fw ns
 have h2:=fw ms
 have:=iF ns ms
 unfold oEq at this
 rw [if_pos ⟨h1,h2⟩] at this
 unfold oNe
 rw [if_pos ⟨h1,h2⟩]
 simp only [Option.some.injEq,R.sh.injEq,D.bl.injEq] at this
 rw [this]
theorem iS {n:Int} {T:List Tie} (W:bc n T) {one other:Int} (h:cz n one other=true) {row:List Int} (R:gi n one other row):aL c [ck c row,ao c n T,.int one,.int other]=some (.bl (rowB n T row)):=by
 have h1:=W.1
 have h2:=W.2.1
 have hl:=R.len
 have a1:=eH c n one other T
 rw [h] at a1
 have a2:=bV c n T (by omega) (by omega)
 refine bv (r:=.sh (.bl (rowB n T row))) rfl (seq1 (δ1:=[some (.sh (ck c row)),some (.sh (ao c n T)),some (.sh (.int one)),some (.sh (.int other))]) ?_ (seq1 (δ1:=[some (.sh (ck c row)),some (.sh (ao c n T)),some (.sh (.int one)),some (.sh (.int other))]) ?_ (jk ?_ rfl))) rfl
 ·
  rw [bQ,cc (eX (aP (gD (r1:=.sh (ao c n T)) (r2:=.sh (.int one)) (r3:=.sh (.int other)) rfl rfl rfl a1 (.inr rfl)))) (aP (b:=false) (aI (a:=.fr ((srt row).map .int)) (b:=.sh (ai (pts n))) (ml (fldN c (f:=aa 0) rfl) (by omega)) (jF (r1:=.sh (ao c n T)) rfl a2 (.inl rfl)) ((kJ _ _).trans (by rw [R.srt];simp))))]
  rfl
 ·
  rw [bQ,cc (aP (b:=false) (aI (a:=.sh (.int one)) (b:=.sh (.int one)) (iR (fldN c (f:=aa 0) rfl) R.hd) rfl (by simp))) (aP (b:=false) (aI (a:=.sh (.int other)) (b:=.sh (.int other)) (mf (fldN c (f:=aa 0) rfl) R.lt) rfl (by simp)))]
  rfl
 ·
  have hi:=rng2E (f:=ac (.int 1)) (g:=ad fJ (bh (isC c.Web) "points" (aa 1)) (ac (.int 1))) (δ:=[some (.sh (ck c row)),some (.sh (ao c n T)),some (.sh (.int one)),some (.sh (.int other))]) (i:=1) (j:=n-1) rfl (aI (fldPts c (f:=aa 1) rfl) rfl rfl) (by omega) (by omega)
  have c1:=cg (g:=ar 0) (t:=eL) (fe:=aq 3 (bJ c) (ab (aa 1) (ab (bh (isC c.Numbers) "points" (aa 2)) (ab (aa 0) ah)))) (m:=1) (ix:=[1,0]) hi (by simp;omega) (ce _ _ _ _ (fun (k:Nat)=>D.int (1+(k:Int))) (fun _=>true) (fun k=>D.bl (dJ T row (k+1) (row.getD (k+1) 0))) (List.range (n-1-1).toNat) (fun k hk=>by
   refine ⟨_,rfl,rfl,fun _=>⟨.sh (.bl (dJ T row (k+1) (row.getD (k+1) 0))),?_,rfl,rfl⟩⟩
   have hk2:k<(n-1-1).toNat:=by simpa using hk
   have hx:row[k+1]?=some (row.getD (k+1) 0):=by
    have:k+1<row.length:=by omega
    simp [List.getD,this]
   have r:=mj c W hx
   have e:(1+(k:Int))=((k+1:Nat):Int):=by omega
   exact gD (r1:=.sh (ao c n T)) (r2:=.sh (ai row)) (r3:=.sh (.int (1+(k:Int)))) rfl (fldN c rfl) rfl (by rw [bm,bm,bm,e];exact r) (.inr rfl)))
  have e1:((List.range (n-1-1).toNat).filter fun _=>true)=List.range (n-1-1).toNat:=by simp
  rw [e1] at c1
  rw [all_eq (bs:=(List.range (n-1-1).toNat).map fun k=>dJ T row (k+1) (row.getD (k+1) 0)) (by rw [aG,c1];simp [Function.comp_def])]
  unfold rowB
  simp [Function.comp_def]
theorem jQ {n:Int} {T:List Tie} (W:bc n T) {one other:Int} (h:cz n one other=true) {row:List Int} (hl:row.length≠n.toNat) (hs:row.length<64):aL c [ck c row,ao c n T,.int one,.int other]=some (.bl false):=by
 have h1:=W.1
 have h2:=W.2.1
 have a1:=eH c n one other T
 rw [h] at a1
 have a2:=bV c n T (by omega) (by omega)
 have hne:srt row≠pts n:=by
  intro e
  have:=congrArg List.length e
  rw [(ni row).length_eq,dW] at this
  exact hl this
 refine bv (r:=.sh (.bl false)) rfl ?_ rfl
 have t:sif ((bo (bf (aj (aq 3 (aY c) (ab (aa 1) (ab (aa 2) (ab (aa 3) ah)))))) (aj (ad oNe (az c8 (ab (bh (isC c.Numbers) "points" (aa 0)) ah)) (aq 1 (aX c) (ab (aa 1) ah)))))) (aR (ac (.bl false))) aE [some (.sh (ck c row)),some (.sh (ao c n T)),some (.sh (.int one)),some (.sh (.int other))]=some (.rt (.sh (.bl false))):=by
  rw [bQ,cc (eX (aP (gD (r1:=.sh (ao c n T)) (r2:=.sh (.int one)) (r3:=.sh (.int other)) rfl rfl rfl a1 (.inr rfl)))) (aP (b:=true) (aI (a:=.fr ((srt row).map .int)) (b:=.sh (ai (pts n))) (ml (fldN c (f:=aa 0) rfl) hs) (jF (r1:=.sh (ao c n T)) rfl a2 (.inl rfl)) ((kJ _ _).trans (by simp [hne]))))]
  rfl
 unfold gd
 rw [e8]
 erw [t]
 rfl
end Pg
end
section
set_option linter.all false
set_option Elab.async false
set_option maxRecDepth 100000
namespace Pg
open PySem PySem.Spec L2 Ew Mx
variable (c:CA)
theorem iT {p:Int}:∀ {l:List Int} {j:Nat},p∈l→(p∈l.take j↔l.idxOf p<j)
 | [],j,h=>by cases h
 | a::l,0,h=>by simp
 | a::l,j+1,h=>by
  rw [List.take_succ_cons,List.mem_cons,List.idxOf_cons]
  by_cases e:a=p
  ·
   subst e;simp
  ·
   have h2:p∈l:=by
    rcases List.mem_cons.1 h with q | q
    ·
     exact absurd q.symm e
    ·
     exact q
   have ih:=iT (j:=j) h2
   have e1:(a==p)=false:=by simpa using e
   rw [e1]
   simp only [cond_false]
   constructor
   ·
    rintro (q | q)
    ·
     exact absurd q.symm e
    ·
     have:=ih.1 q;omega
   ·
    intro q
    exact .inr (ih.2 (by omega))
theorem nG {p:Int} {l:List Int} (nd:l.Nodup) {j:Nat} (h:p∈l):p∈l.drop j↔j≤l.idxOf p:=by
 have e:=List.take_append_drop j l
 have nd2:(l.take j++l.drop j).Nodup:=by rw [e];exact nd
 have hm:p∈l.take j++l.drop j:=by rw [e];exact h
 rw [List.nodup_append] at nd2
 have t:=iT (j:=j) h
 constructor
 ·
  intro q
  by_cases hlt:l.idxOf p<j
  ·
   exact absurd rfl (nd2.2.2 p (t.2 hlt) p q)
  ·
   omega
 ·
  intro q
  rcases List.mem_append.1 hm with r | r
  ·
   have:=t.1 r;omega
  ·
   exact r
theorem idx_ne {p x:Int} {l:List Int} {j:Nat} (h:p∈l) (hx:l[j]?=some x) (hne:p≠x):l.idxOf p≠j:=by
 intro e
 have h1:l.idxOf p<l.length:=List.idxOf_lt_length_iff.mpr h
 have h2:l[l.idxOf p]?=some p:=by rw [List.getElem?_eq_getElem h1,List.getElem_idxOf]
 rw [e,hx] at h2
 exact hne (Option.some.inj h2).symm
theorem lp {x y:Int}:∀ {l:List Int} {j:Nat},l.Nodup→l[j]?=some x→[y,x].Sublist l→y∈l.take j
 | [],j,_,h,_=>by simp at h
 | r::l,j,nd,h,hs=>by
  rw [List.nodup_cons] at nd
  have hxl:x∈l:=by
   cases hs with
   | cons _ s=>exact s.subset (by simp)
   | cons_cons _ s=>exact s.subset (by simp)
  cases j with
  | zero=>
   simp at h
   rw [h] at nd
   exact absurd hxl nd.1
  | succ j=>
   rw [List.take_succ_cons,List.mem_cons]
   cases hs with
   | cons _ s=>exact .inr (lp nd.2 (by simpa using h) s)
   | cons_cons _ s=>exact .inl rfl
theorem lq {x z:Int}:∀ {l:List Int} {j:Nat},l.Nodup→l[j]?=some x→[x,z].Sublist l→z∈l.drop (j+1)
 | [],j,_,h,_=>by simp at h
 | r::l,j,nd,h,hs=>by
  rw [List.nodup_cons] at nd
  cases hs with
  | cons _ s=>
   have hxl:x∈l:=s.subset (by simp)
   cases j with
   | zero=>
    simp at h
    rw [h] at nd
    exact absurd hxl nd.1
   | succ j=>
    show z∈l.drop (j+1)
    exact lq nd.2 (by simpa using h) s
  | cons_cons _ s=>
   have hz:z∈l:=s.subset (by simp)
   cases j with
   | zero=>simpa using hz
   | succ j=>
    have:x∈l:=List.mem_of_getElem? (by simpa using h)
    exact absurd this nd.1
def nbL (T:List Tie) (x:Int):List Int:=(T.filter fun t=>decide (x∈[t.1,t.2])).map fun t=>t.1+t.2-x
theorem jr {n:Int} {T:List Tie} (W:bc n T) (x:Int):bj T [x]=nbL T x:=by
 unfold bj nbL
 have e:T.filter (cS [x])=T.filter fun t=>decide (x∈[t.1,t.2]):=by
  refine List.filter_congr fun t ht=>?_
  have:=W.2.2.2 t ht
  unfold cS
  by_cases h1:t.1=x
  ·
   have:t.2≠x:=by omega
   simp [h1,this]
  ·
   by_cases h2:t.2=x
   ·
    simp [h1,h2]
   ·
    have a1:¬x=t.1:=fun q=>h1 q.symm
    have a2:¬x=t.2:=fun q=>h2 q.symm
    simp [h1,h2,a1,a2]
 rw [e]
 refine List.map_congr_left fun t ht=>?_
 rw [List.mem_filter] at ht
 have:=W.2.2.2 t ht.1
 have hx:x=t.1∨x=t.2:=by simpa using ht.2
 by_cases h1:t.1=x
 ·
  simp [h1];omega
 ·
  have h2:x=t.2:=by
   rcases hx with q | q
   ·
    exact absurd q.symm h1
   ·
    exact q
  simp [h1]
  omega
theorem nb_pt {n:Int} {T:List Tie} (W:bc n T) {x:Int}:∀ p∈nbL T x,(0≤p∧p<n)∧p≠x:=by
 intro p hp
 unfold nbL at hp
 obtain ⟨t,ht,rfl⟩:=List.mem_map.1 hp
 rw [List.mem_filter] at ht
 have:=W.2.2.2 t ht.1
 have hx:x=t.1∨x=t.2:=by simpa using ht.2
 omega
theorem exMin:∀ {ns:List Int},ns≠[]→∃ m∈ns,∀ a∈ns,m≤a
 | [],h=>absurd rfl h
 | [a],_=>⟨a,by simp,by simp⟩
 | a::b::ns,_=>by
  obtain ⟨m,h1,h2⟩:=exMin (ns:=b::ns) (by simp)
  by_cases h:a≤m
  ·
   exact ⟨a,by simp,fun x hx=>by
    rcases List.mem_cons.1 hx with q | q
    ·
     omega
    ·
     have:=h2 x q;omega⟩
  ·
   exact ⟨m,List.mem_cons_of_mem _ h1,fun x hx=>by
    rcases List.mem_cons.1 hx with q | q
    ·
     omega
    ·
     exact h2 x q⟩
theorem exMax:∀ {ns:List Int},ns≠[]→∃ m∈ns,∀ a∈ns,a≤m
 | [],h=>absurd rfl h
 | [a],_=>⟨a,by simp,by simp⟩
 | a::b::ns,_=>by
  obtain ⟨m,h1,h2⟩:=exMax (ns:=b::ns) (by simp)
  by_cases h:m≤a
  ·
   exact ⟨a,by simp,fun x hx=>by
    rcases List.mem_cons.1 hx with q | q
    ·
     omega
    ·
     have:=h2 x q;omega⟩
  ·
   exact ⟨m,List.mem_cons_of_mem _ h1,fun x hx=>by
    rcases List.mem_cons.1 hx with q | q
    ·
     omega
    ·
     exact h2 x q⟩
theorem min1 {f:FE} {δ:DSt} {r:R} {ns:List Int} {m:Int} (h:f δ=some r) (hv:r.view=ai ns) (h1:m∈ns) (h2:∀ a∈ns,m≤a):az iz (ab f ah) δ=some (.sh (.int m)):=by
 rw [eu,aG,h]
 show iz r.view=_
 rw [hv]
 show (nums (ns.map .int)).bind _=_
 rw [fB,Option.bind_some,mJ h1 h2]
 rfl
theorem max1 {f:FE} {δ:DSt} {r:R} {ns:List Int} {m:Int} (h:f δ=some r) (hv:r.view=ai ns) (h1:m∈ns) (h2:∀ a∈ns,a≤m):az iw (ab f ah) δ=some (.sh (.int m)):=by
 rw [eu,aG,h]
 show iw r.view=_
 rw [hv]
 show (nums (ns.map .int)).bind _=_
 rw [fB,Option.bind_some,mI h1 h2]
 rfl
section
variable {n:Int} {T:List Tie} (W:bc n T) {one other:Int} {row:List Int} (R:gi n one other row)
include W R
theorem nb_row {x:Int}:∀ p∈nbL T x,p∈row:=fun p hp=>R.perm.mem_iff.2 (cR.2 (nb_pt W p hp).1)
theorem both_iff {k:Nat} {x:Int} (hk:row[k]?=some x) (h0:nbL T x≠[]) {m1 m2:Int} (a1:m1∈(nbL T x).map fun p=>((row.idxOf p:Nat):Int)) (a2:∀ a∈(nbL T x).map fun p=>((row.idxOf p:Nat):Int),m1≤a)
  (b1:m2∈(nbL T x).map fun p=>((row.idxOf p:Nat):Int)) (b2:∀ a∈(nbL T x).map fun p=>((row.idxOf p:Nat):Int),a≤m2):(decide ((k:Int)<m1)||decide (m2<(k:Int)))=!dJ T row k x:=by
 unfold dJ
 rw [jr W]
 have hr:=nb_row W R (x:=x)
 have hp:=fun p hp=>(nb_pt W (x:=x) p hp).2
 have e1:((nbL T x).any fun p=>decide (p∈row.take k))=decide (m1≤(k:Int)):=by
  rw [Bool.eq_iff_iff,List.any_eq_true]
  constructor
  ·
   rintro ⟨p,q1,q2⟩
   have q3:=(iT (hr p q1)).1 (by simpa using q2)
   have:=a2 _ (List.mem_map.2 ⟨p,q1,rfl⟩)
   simp
   omega
  ·
   intro q
   obtain ⟨p,q1,q2⟩:=List.mem_map.1 a1
   have q3:m1≤(k:Int):=by simpa using q
   have:=idx_ne (hr p q1) hk (hp p q1)
   exact ⟨p,q1,by simpa using (iT (hr p q1)).2 (by omega)⟩
 have e2:((nbL T x).any fun p=>decide (p∈row.drop (k+1)))=decide ((k:Int)≤m2):=by
  rw [Bool.eq_iff_iff,List.any_eq_true]
  constructor
  ·
   rintro ⟨p,q1,q2⟩
   have q3:=(nG R.nd (hr p q1)).1 (by simpa using q2)
   have:=b2 _ (List.mem_map.2 ⟨p,q1,rfl⟩)
   simp
   omega
  ·
   intro q
   obtain ⟨p,q1,q2⟩:=List.mem_map.1 b1
   have q3:(k:Int)≤m2:=by simpa using q
   have:=idx_ne (hr p q1) hk (hp p q1)
   exact ⟨p,q1,by simpa using (nG R.nd (hr p q1)).2 (by omega)⟩
 rw [e1,e2]
 by_cases x1:m1≤(k:Int)
 ·
  by_cases x2:(k:Int)≤m2
  ·
   simp [x1,x2] <;> omega
  ·
   simp [x1,x2] <;> omega
 ·
  simp [x1] <;> omega
end
def kK:FS:=(av (sset 5 (bI (aW (ad oIx (aa 0) (ac (.int 1)))) (ar 0) (aj (ad oIn (ad oIx (aa 1) (aa 2)) (aa 0))) (ad dB (aa 1) (ad fJ (az iM (ab (aa 0) ah)) (ad oIx (aa 1) (aa 2)))) 1 [3,4])) (sif ((bo (aj (ad oEq (aa 5) (cE ah))) (bo (aj (ad oGt (az iz (ab (aa 5) ah)) (aa 4))) (aj (ad oLt (az iw (ab (aa 5) ah)) (aa 4)))))) (aR (ac (.bl false))) aE))
theorem oIn_t2 (p a b:Int):oIn (.int p) (.tup [.int a,.int b])=some (.sh (.bl (decide (p∈[a,b])))):=by
 have h:Ew.okD (.tup [.int a,.int b])=true:=ET.okD (show max 1 1+1≤16 by decide) (a,b)
 show (if okD (.int p)=true∧okD (.tup [.int a,.int b])=true then some (R.sh (.bl (([D.int a,D.int b]).any fun y=>eqP y (.int p)))) else none)=_
 rw [if_pos ⟨c9 p,h⟩]
 have:=Enc.any Enc.int p [a,b]
 simp only [Enc.int,List.map_cons,List.map_nil] at this
 rw [this]
section
variable {n:Int} {T:List Tie} (W:bc n T) {one other:Int} {row:List Int} (R:gi n one other row)
include W R
theorem mn {e1 e2 x5:Option E} {k:Nat} {x:Int} (hk:row[k]?=some x) :
  ∃ y5,kK [some (.sh (am n T)),e1,e2,some (.sh (ai row)),some (.sh (.int k)),x5]=if dJ T row k x=true then some (.nx [some (.sh (am n T)),e1,e2,some (.sh (ai row)),some (.sh (.int k)),y5]) else some (.rt (.sh (.bl false))):=by
 have hT:=W.2.2.1
 have hr:=nb_row W R (x:=x)
 have hl:=R.len
 have h2:=W.2.1
 have hi:=jo (f:=aa 0) (δ:=[some (.sh (am n T)),e1,e2,some (.sh (ai row)),some (.sh (.int k)),x5]) (n:=n) (T:=T) rfl
 have c1:=cg (fi:=aW (ad oIx (aa 0) (ac (.int 1)))) (g:=ar 0) (t:=aj (ad oIn (ad oIx (aa 1) (aa 2)) (aa 0))) (fe:=ad dB (aa 1) (ad fJ (az iM (ab (aa 0) ah)) (ad oIx (aa 1) (aa 2)))) (m:=1) (ix:=[3,4]) (δ:=[some (.sh (am n T)),e1,e2,some (.sh (ai row)),some (.sh (.int k)),x5]) (items:=T.map aJ) (by rw [cJ,hi];rfl) (by simp;omega) (ce _ _ _ _ aJ (fun t=>decide (x∈[t.1,t.2])) (fun t=>D.int ((row.idxOf (t.1+t.2-x):Nat):Int)) T (fun t ht=>by
  refine ⟨[some (.sh (aJ t)),some (.sh (ai row)),some (.sh (.int k))],rfl,aP (aI (a:=.sh (.int x)) (b:=.sh (aJ t)) (ix_nat (f:=aa 1) (g:=aa 2) rfl rfl hk) rfl (oIn_t2 x t.1 t.2)),fun hp=>⟨.sh (.int ((row.idxOf (t.1+t.2-x):Nat):Int)),?_,rfl,rfl⟩⟩
  have hm:t.1+t.2-x∈row:=hr _ (by
   unfold nbL
   exact List.mem_map.2 ⟨t,List.mem_filter.2 ⟨ht,hp⟩,rfl⟩)
  have hs:az iM (ab (aa 0) ah) [some (.sh (aJ t)),some (.sh (ai row)),some (.sh (.int k))]=some (.sh (.int (t.1+t.2))):=by
   rw [eu]
   show iM (aJ t)=_
   simp [iM,aJ,nums]
  exact aI (a:=.sh (ai row)) (b:=.sh (.int (t.1+t.2-x))) rfl (aI (a:=.sh (.int (t.1+t.2))) (b:=.sh (.int x)) hs (ix_nat (f:=aa 1) (g:=aa 2) rfl rfl hk) rfl) (eY hm (by omega))))
 have e0:((T.filter fun t=>decide (x∈[t.1,t.2])).map fun t=>D.int ((row.idxOf (t.1+t.2-x):Nat):Int))=((nbL T x).map fun p=>((row.idxOf p:Nat):Int)).map .int:=by
  unfold nbL
  simp [Function.comp_def]
 rw [e0] at c1
 refine ⟨some (.ow (((nbL T x).map fun p=>((row.idxOf p:Nat):Int)).map .int)),seq1 (dH c1 rfl rfl) ?_⟩
 have hq:oEq (ai ((nbL T x).map fun p=>((row.idxOf p:Nat):Int))) (.lst [])=some (.sh (.bl (decide ((nbL T x).map (fun p=>((row.idxOf p:Nat):Int))=[])))):=by
  have:=iF ((nbL T x).map fun p=>((row.idxOf p:Nat):Int)) []
  exact this
 have hd:cE ah [some (.sh (am n T)),e1,e2,some (.sh (ai row)),some (.sh (.int k)),some (.ow (((nbL T x).map fun p=>((row.idxOf p:Nat):Int)).map .int))]=some (.fr []):=by
  have b0:(0:Nat)≤big:=by decide
  simp [b0]
 have t1:=aP (b:=decide ((nbL T x).map (fun p=>((row.idxOf p:Nat):Int))=[])) (aI (a:=.bw (((nbL T x).map fun p=>((row.idxOf p:Nat):Int)).map .int)) (b:=.fr []) (fa:=aa 5) (δ:=[some (.sh (am n T)),e1,e2,some (.sh (ai row)),some (.sh (.int k)),some (.ow (((nbL T x).map fun p=>((row.idxOf p:Nat):Int)).map .int))]) rfl hd hq)
 rw [bQ,lL]
 by_cases h0:nbL T x=[]
 ·
  have hb:dJ T row k x=false:=by
   unfold dJ
   rw [jr W,h0]
   rfl
  rw [h0] at t1 ⊢
  rw [hb]
  erw [t1]
  rfl
 ·
  obtain ⟨m1,a1,a2⟩:=exMin (ns:=(nbL T x).map fun p=>((row.idxOf p:Nat):Int)) (by simpa using h0)
  obtain ⟨m2,b1,b2⟩:=exMax (ns:=(nbL T x).map fun p=>((row.idxOf p:Nat):Int)) (by simpa using h0)
  have hb:=both_iff W R hk h0 a1 a2 b1 b2
  have t2:=aP (aI (b:=.sh (.int k)) (fb:=aa 4) (min1 (f:=aa 5) (δ:=[some (.sh (am n T)),e1,e2,some (.sh (ai row)),some (.sh (.int k)),some (.ow (((nbL T x).map fun p=>((row.idxOf p:Nat):Int)).map .int))]) (r:=.bw (((nbL T x).map fun p=>((row.idxOf p:Nat):Int)).map .int)) rfl rfl a1 a2) rfl (oGt_ii m1 k))
  have t3:=aP (aI (b:=.sh (.int k)) (fb:=aa 4) (max1 (f:=aa 5) (δ:=[some (.sh (am n T)),e1,e2,some (.sh (ai row)),some (.sh (.int k)),some (.ow (((nbL T x).map fun p=>((row.idxOf p:Nat):Int)).map .int))]) (r:=.bw (((nbL T x).map fun p=>((row.idxOf p:Nat):Int)).map .int)) rfl rfl b1 b2) rfl (oLt_ii m2 k))
  have hne:¬((nbL T x).map (fun p=>((row.idxOf p:Nat):Int))=[]):=by simpa using h0
  rw [decide_eq_false hne] at t1
  have tt:bo (aj (ad oGt (az iz (ab (aa 5) ah)) (aa 4))) (aj (ad oLt (az iw (ab (aa 5) ah)) (aa 4))) [some (.sh (am n T)),e1,e2,some (.sh (ai row)),some (.sh (.int k)),some (.ow (((nbL T x).map fun p=>((row.idxOf p:Nat):Int)).map .int))]=some (!dJ T row k x):=by
   rw [lL,t2,t3,←hb]
   by_cases z:(k:Int)<m1 <;> simp [z]
  erw [t1]
  simp only [Option.bind_some,Bool.false_eq_true,if_false]
  erw [tt]
  cases dJ T row k x <;> rfl
theorem iU {e1 e2:Option E}:∀ (ks:List Nat) (x4 x5:Option E),(∀ k∈ks,k+1<row.length)→
  (ks.all (fun k=>dJ T row (k+1) (row.getD (k+1) 0))=true∧∃ y4 y5,bC (ar 4) kK (ks.map fun k=>D.int (1+((k:Nat):Int))) [some (.sh (am n T)),e1,e2,some (.sh (ai row)),x4,x5]=some (.nx [some (.sh (am n T)),e1,e2,some (.sh (ai row)),y4,y5]))∨
  (ks.all (fun k=>dJ T row (k+1) (row.getD (k+1) 0))=false∧bC (ar 4) kK (ks.map fun k=>D.int (1+((k:Nat):Int))) [some (.sh (am n T)),e1,e2,some (.sh (ai row)),x4,x5]=some (.rt (.sh (.bl false))))
 | [],x4,x5,_=>.inl ⟨rfl,x4,x5,rfl⟩
 | k::ks,x4,x5,h=>by
  have hk:=h k (by simp)
  have hx:row[k+1]?=some (row.getD (k+1) 0):=by simp [List.getD,hk]
  obtain ⟨y5,hb⟩:=mn W R (e1:=e1) (e2:=e2) (x5:=x5) hx
  have e:(1+(k:Int))=((k+1:Nat):Int):=by omega
  have hg:ar 4 (.int (1+(k:Int))) [some (.sh (am n T)),e1,e2,some (.sh (ai row)),x4,x5]=some [some (.sh (am n T)),e1,e2,some (.sh (ai row)),some (.sh (.int ((k+1:Nat):Int))),x5]:=by rw [e];rfl
  rw [List.map_cons,List.all_cons]
  have hf:bC (ar 4) kK (D.int (1+(k:Int))::ks.map fun k=>D.int (1+((k:Nat):Int))) [some (.sh (am n T)),e1,e2,some (.sh (ai row)),x4,x5]=(kK [some (.sh (am n T)),e1,e2,some (.sh (ai row)),some (.sh (.int ((k+1:Nat):Int))),x5]).bind (Res.loop fun δ=>bC (ar 4) kK (ks.map fun k=>D.int (1+((k:Nat):Int))) δ):=by
   show (ar 4 _ _).bind _=_
   rw [hg]
   rfl
  rw [hf,hb]
  cases hq:dJ T row (k+1) (row.getD (k+1) 0) with
  | false=>exact .inr ⟨rfl,rfl⟩
  | true=>
   simp only [if_true,Option.bind_some,eW,Bool.true_and]
   exact iU ks _ _ fun j hj=>h j (List.mem_cons_of_mem _ hj)
end
theorem lrng {f:FE} {δ:DSt} {n:Int} (h:f δ=some (.sh (.int n))) (h1:0≤n) (h2:n≤1000):di (ab f ah) δ=some (.fr ((pts n).map .int)):=by
 have e:(-1000000:Int)≤0∧(0:Int)≤1000000∧-1000000≤n∧n≤1000000:=by omega
 unfold di
 rw [aG,h]
 simp [rngD,e,pts]
theorem gH {n:Int} {T:List Tie} (W:bc n T) {one other:Int} {row:List Int} (R:gi n one other row):bU c [am n T,.int one,.int other,ai row]=some (.bl (rowB n T row)):=by
 have h1:=W.1
 have h2:=W.2.1
 have hl:=R.len
 have s1:sif ((bo (bf (aj (aw eP (aa 3)))) (bo (aj (ad oNe (az c8 (ab (aa 3) ah)) (di (ab (ad oIx (aa 0) (ac (.int 0))) ah)))) (bo (aj (ad oNe (ad oIx (aa 3) (ac (.int 0))) (aa 1))) (aj (ad oNe (ad oIx (aa 3) (dun d0 (ac (.int 1)))) (aa 2))))))) (aR (ac (.bl false))) aE [some (.sh (am n T)),some (.sh (.int one)),some (.sh (.int other)),some (.sh (ai row)),none,none]=some (.nx [some (.sh (am n T)),some (.sh (.int one)),some (.sh (.int other)),some (.sh (ai row)),none,none]):=by
  rw [bQ,cc (eX (aP (eI (d:=ai row) (b:=true) rfl rfl))) (cc (aP (b:=false) (aI (a:=.fr ((srt row).map .int)) (b:=.fr ((pts n).map .int)) (ml (f:=aa 3) rfl (by omega)) (lrng (fj (f:=aa 0) rfl) (by omega) (by omega)) ((kJ _ _).trans (by rw [R.srt];simp))))
   (cc (aP (b:=false) (aI (a:=.sh (.int one)) (b:=.sh (.int one)) (iR (f:=aa 3) rfl R.hd) rfl (by simp))) (aP (b:=false) (aI (a:=.sh (.int other)) (b:=.sh (.int other)) (mf (f:=aa 3) rfl R.lt) rfl (by simp)))))]
  rfl
 have c2:=cg (fi:=aW (aa 3)) (g:=ar 0) (t:=eL) (fe:=((dor (aw is_bool (aa 0)) (dnot (aw cY (aa 0)))))) (m:=1) (ix:=[]) (δ:=[some (.sh (am n T)),some (.sh (.int one)),some (.sh (.int other)),some (.sh (ai row)),none,none]) rfl (by simp;omega) (ce _ _ _ _ D.int (fun _=>true) (fun _=>D.bl false) row (fun p _=>⟨_,rfl,rfl,fun _=>⟨.sh (.bl false),rfl,rfl,rfl⟩⟩))
 have e2:(row.filter fun _=>true)=row:=by simp
 rw [e2] at c2
 have s2:sif (aj (az oAny (ab (bI (aW (aa 3)) (ar 0) eL ((dor (aw is_bool (aa 0)) (dnot (aw cY (aa 0))))) 1 []) ah))) (aR (ac (.bl false))) aE [some (.sh (am n T)),some (.sh (.int one)),some (.sh (.int other)),some (.sh (ai row)),none,none]=some (.nx [some (.sh (am n T)),some (.sh (.int one)),some (.sh (.int other)),some (.sh (ai row)),none,none]):=by
  rw [bQ,aP (b:=false) (by
   rw [any_eq (bs:=row.map fun _=>false) (by rw [aG,c2];simp [Function.comp_def])]
   simp)]
  rfl
 have hi:=rng2E (f:=ac (.int 1)) (g:=ad fJ (ad oIx (aa 0) (ac (.int 0))) (ac (.int 1))) (δ:=[some (.sh (am n T)),some (.sh (.int one)),some (.sh (.int other)),some (.sh (ai row)),none,none]) (i:=1) (j:=n-1) rfl (aI (fj (f:=aa 0) rfl) rfl rfl) (by omega) (by omega)
 unfold rowB
 rcases iU W R (e1:=some (.sh (.int one))) (e2:=some (.sh (.int other))) (List.range (n-1-1).toNat) none none (fun k hk=>by
  have:k<(n-1-1).toNat:=by simpa using hk
  omega) with ⟨q1,y4,y5,q2⟩ | ⟨q1,q2⟩
 ·
  rw [q1]
  refine bv (r:=.sh (.bl true)) rfl (seq1 s1 (seq1 s2 (seq1 (δ1:=[some (.sh (am n T)),some (.sh (.int one)),some (.sh (.int other)),some (.sh (ai row)),y4,y5]) ?_ rfl))) rfl
  unfold bW
  rw [hi]
  exact q2
 ·
  rw [q1]
  refine bv (r:=.sh (.bl false)) rfl (seq1 s1 (seq1 s2 ?_)) rfl
  have hf:bW (kd (ab (ac (.int 1)) (ab (ad fJ (ad oIx (aa 0) (ac (.int 0))) (ac (.int 1))) ah))) (ar 4) kK [some (.sh (am n T)),some (.sh (.int one)),some (.sh (.int other)),some (.sh (ai row)),none,none]=some (.rt (.sh (.bl false))):=by
   unfold bW
   rw [hi]
   exact q2
  rw [e8]
  erw [hf]
  rfl
end Pg
end
section
set_option linter.all false
set_option Elab.async false
set_option maxRecDepth 100000
namespace Pg
open PySem PySem.Spec L2 Ew Mx
variable (c:CA)
theorem srt_self {ps:List Int} (h:ps.Pairwise (·<·)):srt ps=ps:=(lJ (List.Perm.refl ps) (h.imp (fun h=>by omega))).symm
theorem nH {ps:List Int} (h:ps.Pairwise (·<·)):ps.Nodup:=h.imp (fun h=>by omega)
theorem isSet_of {n:Int} {ps:List Int} (h:ps.Pairwise (·<·)) (hp:∀ p∈ps,0≤p∧p<n):isSet n ps=true:=by
 have:=isSet_srt (n:=n) (nH h) hp
 rwa [srt_self h] at this
section
variable {n:Int} {T:List Tie} (W:bc n T) {one other:Int} {ps:List Int} {d:Int} (P:kF n T one other ps d)
include W P
theorem left_door:∀ p∈bj T ps,p=d:=by
 intro p hp
 unfold bj at hp
 obtain ⟨t,ht,rfl⟩:=List.mem_map.1 hp
 rw [List.mem_filter] at ht
 have h:=P.lv t ht.1 ht.2
 have hv:=ht.2
 unfold cS at hv
 by_cases h1:t.1∈ps
 ·
  rw [if_pos h1]
  rcases h with q | q
  ·
   exact absurd (q▸h1) P.nod
  ·
   exact q.symm
 ·
  rw [if_neg h1]
  rcases h with q | q
  ·
   exact q.symm
  ·
   have h2:t.2∈ps:=by
    by_cases h2:t.2∈ps
    ·
     exact h2
    ·
     simp [h1,h2] at hv
   exact absurd (q▸h2) P.nod
theorem door_true:cM c [ao c n T,ai ps,.int d]=some (.bl true):=by
 have h1:=W.1
 have h2:=W.2.1
 have hT:=W.2.2.1
 have a1:=jP c n T ps (by omega) (by omega)
 rw [isSet_of P.lt P.pt] at a1
 have a2:=fZ c n d T
 have hd:=P.dpt
 have hh:g5 n d=true:=by unfold g5;simp [hd]
 rw [hh] at a2
 have a3:=gE c n T ps (by omega)
 have hl:=ln T ps
 have hp:=P.pos
 have c1:=cg (fi:=aW (aq 2 (bp c) (ab (aa 0) (ab (aa 1) ah)))) (g:=ar 0) (t:=eL) (fe:=ad oEq (aa 0) (aa 1)) (m:=1) (ix:=[2]) (δ:=[some (.sh (ao c n T)),some (.sh (ai ps)),some (.sh (.int d))]) (items:=(bj T ps).map .int) (by rw [cJ,fA (r1:=.sh (ao c n T)) (r2:=.sh (ai ps)) rfl rfl a3 (.inl ⟨rfl,rfl⟩)];rfl) (by simp;omega) (ce _ _ _ _ D.int (fun _=>true) (fun _=>D.bl true) (bj T ps) (fun p hp=>⟨_,rfl,rfl,fun _=>⟨.sh (.bl true),by
   have e:=left_door W P p hp
   subst e
   exact aI (a:=.sh (.int p)) (b:=.sh (.int p)) rfl rfl (by simp),rfl,rfl⟩⟩))
 have e2:((bj T ps).filter fun _=>true)=bj T ps:=by simp
 rw [e2] at c1
 refine bv (r:=.sh (.bl true)) rfl (seq1 (δ1:=[some (.sh (ao c n T)),some (.sh (ai ps)),some (.sh (.int d))]) ?_ (seq1 (δ1:=[some (.sh (ao c n T)),some (.sh (ai ps)),some (.sh (.int d))]) ?_ (jk (all_true (xs:=bj T ps) (by rw [aG,c1];rfl)) rfl))) rfl
 ·
  rw [bQ,cc (eX (aP (fA (r1:=.sh (ao c n T)) (r2:=.sh (ai ps)) rfl rfl a1 (.inr rfl)))) (aP (b:=false) (aI (a:=.sh (.int ps.length)) (b:=.sh (.int 1)) (by simp [ai]) rfl (by simp;omega)))]
  rfl
 ·
  rw [bQ,cc (eX (aP (fA (r1:=.sh (ao c n T)) (r2:=.sh (.int d)) rfl rfl a2 (.inr rfl)))) (aP (b:=false) (aI (a:=.sh (.int d)) (b:=.sh (ai ps)) rfl rfl (eJ.trans (by simp [P.nod]))))]
  rfl
end
theorem lkd1 {A:Type} {a b:A}:List.lookup ("points" : Str) [("points",a),("door",b)]=some a:=rfl
theorem lkd2 {A:Type} {a b:A}:List.lookup ("door" : Str) [("points",a),("door",b)]=some b:=rfl
theorem lkd3 {A:Type} {a b:A}:List.lookup ("shows" : Str) [(("points" : Str),a),(("door" : Str),b)]=none:=rfl
theorem fldK {f:FE} {δ:DSt} {ps:List Int} {d:Int} (h:f δ=some (.sh (bY c ps d))):bh (isC c.Pocket) "points" f δ=some (.sh (ai ps)):=by
 rw [ja,h]
 simp [bY,lkd1]
theorem fldD {f:FE} {δ:DSt} {ps:List Int} {d:Int} (h:f δ=some (.sh (bY c ps d))):bh (isC c.Pocket) "door" f δ=some (.sh (.int d)):=by
 rw [ja,h]
 simp [bY,lkd2]
section
variable {n:Int} {T:List Tie} (W:bc n T) {one other:Int} (h:cz n one other=true)
include W h
theorem gI {ps:List Int} {d:Int} (P:kF n T one other ps d):aS c [bY c ps d,ao c n T,.int one,.int other]=some (.bl true):=by
 have a1:=eH c n one other T
 rw [h] at a1
 have a2:=door_true c W P
 refine bv (r:=.sh (.bl true)) rfl (seq1 (δ1:=[some (.sh (bY c ps d)),some (.sh (ao c n T)),some (.sh (.int one)),some (.sh (.int other))]) ?_ (jk (gD (r1:=.sh (ao c n T)) (r2:=.sh (ai ps)) (r3:=.sh (.int d)) rfl (fldK c (f:=aa 0) rfl) (fldD c (f:=aa 0) rfl) a2 (.inr rfl)) rfl)) rfl
 rw [bQ,cc (eX (aP (gD (r1:=.sh (ao c n T)) (r2:=.sh (.int one)) (r3:=.sh (.int other)) rfl rfl rfl a1 (.inr rfl)))) (cc (aP (b:=false) (aI (a:=.sh (.int one)) (b:=.sh (ai ps)) rfl (fldK c (f:=aa 0) rfl) (eJ.trans (by simp [P.no1])))) (aP (b:=false) (aI (a:=.sh (.int other)) (b:=.sh (ai ps)) rfl (fldK c (f:=aa 0) rfl) (eJ.trans (by simp [P.no2])))))]
 rfl
theorem jR {ps:List Int} {d:Int} (h1:one∈ps):aS c [bY c ps d,ao c n T,.int one,.int other]=some (.bl false):=by
 have a1:=eH c n one other T
 rw [h] at a1
 refine bv (r:=.sh (.bl false)) rfl ?_ rfl
 have t:sif ((bo (bf (aj (aq 3 (aY c) (ab (aa 1) (ab (aa 2) (ab (aa 3) ah)))))) (bo (aj (ad oIn (aa 2) (bh (isC c.Pocket) "points" (aa 0)))) (aj (ad oIn (aa 3) (bh (isC c.Pocket) "points" (aa 0))))))) (aR (ac (.bl false))) aE [some (.sh (bY c ps d)),some (.sh (ao c n T)),some (.sh (.int one)),some (.sh (.int other))]=some (.rt (.sh (.bl false))):=by
  rw [bQ,cc (x:=some true) (eX (aP (gD (r1:=.sh (ao c n T)) (r2:=.sh (.int one)) (r3:=.sh (.int other)) rfl rfl rfl a1 (.inr rfl)))) (by
   rw [lL,aP (b:=true) (aI (a:=.sh (.int one)) (b:=.sh (ai ps)) rfl (fldK c (f:=aa 0) rfl) (eJ.trans (by simp [h1])))]
   rfl)]
  rfl
 unfold gA
 rw [e8]
 erw [t]
 rfl
end
theorem oEq_bb (a b:Bool):oEq (.bl a) (.bl b)=some (.sh (.bl (decide (a=b)))):=by
 cases a <;> cases b <;> rfl
theorem gj {n:Int} {T:List Tie} (W:bc n T) {one other:Int} {ps:List Int} {d:Int} (P:kF n T one other ps d):cf c [am n T,.int one,.int other,ai ps,.int d]=some (.bl true):=by
 have hT:=W.2.2.1
 have hd:=P.dpt
 have hp:=P.pos
 have b2:(2:Nat)≤big:=by decide
 have b0:(0:Nat)≤big:=by decide
 have r1:=nh c P.pt P.lt
 have hi:=jo (f:=aa 0) (δ:=[some (.sh (am n T)),some (.sh (.int one)),some (.sh (.int other)),some (.sh (ai ps)),some (.sh (.int d))]) (n:=n) (T:=T) rfl
 have c1:=cg (fi:=aW (ad oIx (aa 0) (ac (.int 1)))) (g:=gtup 2 (eN (ar 0) (eN (ar 1) gnil))) (t:=eL) (fe:=((dor (ad oEq (ad oIn (aa 0) (aa 3)) (ad oIn (aa 1) (aa 3))) (ad oIn (aa 2) (b9 (ab (aa 0) (ab (aa 1) ah))))))) (m:=2) (ix:=[4,3]) (δ:=[some (.sh (am n T)),some (.sh (.int one)),some (.sh (.int other)),some (.sh (ai ps)),some (.sh (.int d))]) (items:=T.map aJ) (by rw [cJ,hi];rfl) (by simp;omega) (ce _ _ _ _ aJ (fun _=>true) (fun _=>D.bl true) T (fun t ht=>by
  refine ⟨[some (.sh (.int t.1)),some (.sh (.int t.2)),some (.sh (.int d)),some (.sh (ai ps))],rfl,rfl,fun _=>⟨.sh (.bl true),?_,rfl,rfl⟩⟩
  have q:=P.lv t ht
  unfold cS at q
  have i1:ad oIn (aa 0) (aa 3) [some (.sh (.int t.1)),some (.sh (.int t.2)),some (.sh (.int d)),some (.sh (ai ps))]=some (.sh (.bl (decide (t.1∈ps)))):=aI (a:=.sh (.int t.1)) (b:=.sh (ai ps)) rfl rfl eJ
  have i2:ad oIn (aa 1) (aa 3) [some (.sh (.int t.1)),some (.sh (.int t.2)),some (.sh (.int d)),some (.sh (ai ps))]=some (.sh (.bl (decide (t.2∈ps)))):=aI (a:=.sh (.int t.2)) (b:=.sh (ai ps)) rfl rfl eJ
  have i3:=aI i1 i2 (oEq_bb (decide (t.1∈ps)) (decide (t.2∈ps)))
  rw [dor_e,i3]
  by_cases z:decide (t.1∈ps)=decide (t.2∈ps)
  ·
   rw [decide_eq_true z]
   rfl
  ·
   rw [decide_eq_false z]
   have z2:=q (by simpa using z)
   have i4:b9 (ab (aa 0) (ab (aa 1) ah)) [some (.sh (.int t.1)),some (.sh (.int t.2)),some (.sh (.int d)),some (.sh (ai ps))]=some (.sh (.tup [.int t.1,.int t.2])):=by
    simp [b2]
   show ad oIn (aa 2) (b9 (ab (aa 0) (ab (aa 1) ah))) [some (.sh (.int t.1)),some (.sh (.int t.2)),some (.sh (.int d)),some (.sh (ai ps))]=_
   refine aI (a:=.sh (.int d)) (b:=.sh (.tup [.int t.1,.int t.2])) rfl i4 ((oIn_t2 d t.1 t.2).trans ?_)
   have:d∈[t.1,t.2]:=by simpa using z2
   simp only [this,decide_true]))
 have e2:(T.filter fun _=>true)=T:=by simp
 rw [e2] at c1
 have nem:¬(ps=[]):=by intro e;rw [e] at hp;simp at hp
 refine bv (r:=.sh (.bl true)) rfl (seq1 (δ1:=[some (.sh (am n T)),some (.sh (.int one)),some (.sh (.int other)),some (.sh (ai ps)),some (.sh (.int d))]) ?_ (seq1 (δ1:=[some (.sh (am n T)),some (.sh (.int one)),some (.sh (.int other)),some (.sh (ai ps)),some (.sh (.int d))]) ?_ (jk (all_true (xs:=T) (by rw [aG,c1];rfl)) rfl))) rfl
 ·
  have ch:aj (dw oLe oLt (ac (.int 0)) (aa 4) (ad oIx (aa 0) (ac (.int 0)))) [some (.sh (am n T)),some (.sh (.int one)),some (.sh (.int other)),some (.sh (ai ps)),some (.sh (.int d))]=some true:=by
   have t0:=fj (f:=aa 0) (δ:=[some (.sh (am n T)),some (.sh (.int one)),some (.sh (.int other)),some (.sh (ai ps)),some (.sh (.int d))]) (n:=n) (T:=T) rfl
   simp only [cI,dchain_e,kh,fP,List.getElem?_cons_zero,List.getElem?_cons_succ,Option.bind_some,bm,oLe_ii,hd.1,decide_true]
   rw [t0]
   simp [hd]
  show sif _ _ _ [some (.sh (am n T)),some (.sh (.int one)),some (.sh (.int other)),some (.sh (ai ps)),some (.sh (.int d))]=_
  rw [bQ,cc (aP (eI (ans:=is_bool) (f:=aa 4) (d:=.int d) (b:=false) rfl rfl)) (cc (eX (aP (eI (ans:=cY) (f:=aa 4) (d:=.int d) (b:=true) rfl rfl))) (eX ch))]
  rfl
 ·
  have dn:cE ah [some (.sh (am n T)),some (.sh (.int one)),some (.sh (.int other)),some (.sh (ai ps)),some (.sh (.int d))]=some (.fr []):=by simp [b0]
  rw [bQ,cc (eX (aP (fA (r1:=.sh (ai ps)) (r2:=.sh (.int n)) rfl (fj (f:=aa 0) rfl) r1 (.inr rfl)))) (cc (aP (b:=false) (aI (a:=.sh (ai ps)) (b:=.fr []) rfl dn ((iF ps []).trans (by simp [nem])))) (cc (aP (b:=false) (aI (a:=.sh (.int one)) (b:=.sh (ai ps)) rfl rfl (eJ.trans (by simp [P.no1])))) (cc (aP (b:=false) (aI (a:=.sh (.int other)) (b:=.sh (ai ps)) rfl rfl (eJ.trans (by simp [P.no2])))) (aP (b:=false) (aI (a:=.sh (.int d)) (b:=.sh (ai ps)) rfl rfl (eJ.trans (by simp [P.nod])))))))]
  rfl
theorem kF.tail {n:Int} {T:List Tie} {one other:Int} {ps:List Int} {d:Int} (P:kF n T one other ps d):kF n T.tail one other ps d:=
 ⟨P.lt,P.pt,P.pos,P.no1,P.no2,P.nod,P.dpt,fun t ht=>P.lv t (List.mem_of_mem_tail ht)⟩
def tiedT (T:List Tie) (x y:Int):Prop:=(x,y)∈T∨(y,x)∈T
theorem nb_tied {n:Int} {T:List Tie} (W:bc n T) {x y:Int} (h:tiedT T x y):y∈bj T [x]:=by
 rw [jr W]
 unfold nbL
 rcases h with h | h
 ·
  exact List.mem_map.2 ⟨(x,y),List.mem_filter.2 ⟨h,by simp⟩,by simp <;> omega⟩
 ·
  exact List.mem_map.2 ⟨(y,x),List.mem_filter.2 ⟨h,by simp⟩,by simp <;> omega⟩
theorem row_found {n:Int} {T:List Tie} (W:bc n T) {one other:Int} (h:cz n one other=true) (hp:g8 n T one other=none) :
  ∃ row,eS 100 (au T) n.toNat 100 [one,other]=some row∧gi n one other row∧rowB n T row=true:=by
 obtain ⟨p1,p2,hne⟩:=j4 h
 have hl:=dq T
 have hT:=W.2.2.1
 have h8:=W.2.1
 have K:mT (au T) (fun p=>0≤p∧p<n) one other:=by
  intro d hd Q q1 q2 q3 p pp pd
  have hz:¬0<(aO n T one other d).length:=by
   unfold g8 at hp
   rw [List.find?_eq_none] at hp
   simpa using hp d (cR.2 hd)
  have hm:p∉aO n T one other d:=fun q=>hz (List.length_pos_of_mem q)
  unfold aO at hm
  rw [List.mem_filter,cR] at hm
  have hm2:p∈rch T d one∨p∈rch T d other:=by
   by_cases z1:p∈rch T d one
   ·
    exact .inl z1
   ·
    by_cases z2:p∈rch T d other
    ·
     exact .inr z2
    ·
     exact absurd ⟨pp,by simp [z1,z2,pd]⟩ hm
  have cl:∀ s∈(aZ (au T) d).map pr2,Q s.1→Q s.2:=by
   intro s hs
   obtain ⟨t,ht,rfl⟩:=List.mem_map.1 hs
   obtain ⟨b1,b2,b3⟩:=cx.1 ht
   exact q3 t b1 (Ne.symm b2) (Ne.symm b3)
  rcases hm2 with z | z
  ·
   exact (jp W d one).min Q q1 cl p z
  ·
   exact (jp W d other).min Q q2 cl p z
 have tsym:∀ x y,tiedT T x y→tiedT T y x:=fun x y q=>q.symm
 have ht:∀ s∈au T,tiedT T s.1 s.2.1:=by
  intro s hs
  obtain ⟨i,t,hi,_,hh⟩:=bE.1 hs
  have:=List.mem_of_getElem? hi
  rcases hh with ⟨a,b⟩ | ⟨a,b⟩
  ·
   left;rw [a,b];exact this
  ·
   right;rw [a,b];exact this
 have N0:Num (tiedT T) one other [one,other]:=by
  refine ⟨by simp [hne],rfl,rfl,?_⟩
  intro x hx h1 h2
  simp at hx
  rcases hx with q | q
  ·
   exact absurd q h1
  ·
   exact absurd q h2
 obtain ⟨row,r1,r2,r3,r4⟩:=row_ok (f6 T) (m5 T) (og W) (fun s hs=>⟨(f7 W s hs).1,(f7 W s hs).2.1⟩) ht tsym (gO n) (fun p=>cR) K p1 (n:=100) (by omega) 100 [one,other] N0 (by
  intro p hp
  simp at hp
  rcases hp with q | q
  ·
   rw [q];exact p1
  ·
   rw [q];exact p2) (by rw [dW];simp;omega)
 rw [dW] at r1 r4
 have hall:∀ p,p∈row↔p∈pts n:=by
  intro p
  constructor
  ·
   exact fun q=>cR.2 (r3 p q)
  ·
   intro q
   apply Classical.byContradiction
   intro hn
   have:=List.Nodup.length_le_of_subset (l₁:=p::row) (l₂:=pts n) (by simp only [List.nodup_cons];exact ⟨hn,r2.nd⟩) (by
    intro x hx
    rw [List.mem_cons] at hx
    rcases hx with rfl | hx
    ·
     exact q
    ·
     exact cR.2 (r3 x hx))
   rw [dW] at this
   simp at this
   omega
 have R:gi n one other row:=⟨(List.perm_ext_iff_of_nodup r2.nd (gO n)).2 hall,r2.hd,r2.lt⟩
 refine ⟨row,r1,R,?_⟩
 have hlen:=R.len
 unfold rowB
 rw [List.all_eq_true]
 intro k hk
 have hk2:k<(n-1-1).toNat:=by simpa using hk
 have hx:row[k+1]?=some (row.getD (k+1) 0):=by
  have:k+1<row.length:=by omega
  simp [List.getD,this]
 generalize row.getD (k+1) 0=x at hx ⊢
 have hxm:=List.mem_of_getElem? hx
 have n1:x≠one:=by
  intro e
  have h0:row[0]?=some one:=by rw [←List.head?_eq_getElem?];exact R.hd
  have:=(List.getElem?_inj (i:=0) (j:=k+1) (by omega) R.nd).1 (by rw [h0,hx,e])
  omega
 have n2:x≠other:=by
  intro e
  have h0:row[row.length-1]?=some other:=by rw [←List.getLast?_eq_getElem?];exact R.lt
  have:=(List.getElem?_inj (i:=row.length-1) (j:=k+1) (by omega) R.nd).1 (by rw [h0,hx,e])
  omega
 obtain ⟨⟨y,t1,s1⟩,z,t2,s2⟩:=r2.inn x hxm n1 n2
 unfold dJ
 rw [Bool.and_eq_true,List.any_eq_true,List.any_eq_true]
 exact ⟨⟨y,nb_tied W (tsym _ _ t1),by simpa using lp R.nd hx s1⟩,⟨z,nb_tied W t2,by simpa using lq R.nd hx s2⟩⟩
end Pg
end
section
set_option linter.all false
set_option Elab.async false
set_option maxRecDepth 100000
namespace Pg
open PySem PySem.Spec L2 Ew Mx
variable (c:CA)
theorem ansN (hc:CNe c) (ps:List Int):c5 c (ck c ps)=some true∧bO c (ck c ps)=some true∧c6 c (ck c ps)=some false∧ez c (ck c ps)=some false∧h9 c (ck c ps)=some false:=by
 simp [c5,bO,c6,ez,h9,ck]
theorem ansK (hc:CNe c) (ps:List Int) (d:Int):c5 c (bY c ps d)=some true∧bO c (bY c ps d)=some false∧c6 c (bY c ps d)=some true∧ez c (bY c ps d)=some false∧h9 c (bY c ps d)=some false:=by
 have h:=Ne.symm hc.1
 simp [c5,bO,c6,ez,h9,bY,h]
theorem meth3 {C:Addr} {name:Str} {m:List D→Option D} {fo f1 f2 f3:FE} {δ:DSt} {fs:List (Str×D)} {r1 r2 r3:R} {d:D} (h:fo δ=some (.sh (.obj C fs))) (hl:fs.lookup name=none) (h1:f1 δ=some r1) (h2:f2 δ=some r2) (h3:f3 δ=some r3)
  (hm:m [.obj C fs,r1.view,r2.view,r3.view]=some d) (hb:d.flat=true):bB C name 4 m fo (ab f1 (ab f2 (ab f3 ah))) δ=some (.sh d):=by
 simp only [dmeth_e,h,Option.bind_some,bm,hl,aG,ej,h1,h2,h3,and_self,if_true,gL,List.map_cons,List.map_nil,hm]
 rw [if_pos]
 exact ⟨rfl,.inr hb⟩
theorem meth_no {C C':Addr} {name:Str} {k:Nat} {m:List D→Option D} {fo:FE} {fa:DSt→Option (List R)} {δ:DSt} {fs:List (Str×D)} (h:fo δ=some (.sh (.obj C' fs))) (hn:C'≠C):bB C name k m fo fa δ=none:=by
 simp only [dmeth_e,h,Option.bind_some,bm]
 simp [hn]
theorem fld_no {C C':Addr} {name:Str} {fo:FE} {δ:DSt} {fs:List (Str×D)} (h:fo δ=some (.sh (.obj C' fs))) (hn:C'≠C):bh (isC C) name fo δ=none:=by
 simp only [ja,h,Option.bind_some,bm]
 simp [isC,hn]
def shw (f:FE):FE:=((eK (bB c.Numbers "shows" 4 (aL c) (aa 8) (ab f (ab (aa 5) (ab (aa 6) ah)))) (bB c.Pocket "shows" 4 (aS c) (aa 8) (ab f (ab (aa 5) (ab (aa 6) ah))))))
def fpt:FE:=(eK (bh (isC c.Numbers) "points" (aa 8)) (bh (isC c.Pocket) "points" (aa 8)))
section
variable {δ:DSt} {f:FE} {n one other:Int} {T:List Tie} {b:Bool}
theorem shw_N {ps:List Int} (h8:aa 8 δ=some (.sh (ck c ps))) (hf:f δ=some (.sh (ao c n T))) (h5:aa 5 δ=some (.sh (.int one))) (h6:aa 6 δ=some (.sh (.int other))) (h:aL c [ck c ps,ao c n T,.int one,.int other]=some (.bl b)):shw c f δ=some (.sh (.bl b)):=by
 unfold shw eK
 rw [meth3 (fs:=[("points",ai ps)]) h8 lkN2 hf h5 h6 h rfl]
theorem shw_K (hc:CNe c) {ps:List Int} {d:Int} (h8:aa 8 δ=some (.sh (bY c ps d))) (hf:f δ=some (.sh (ao c n T))) (h5:aa 5 δ=some (.sh (.int one))) (h6:aa 6 δ=some (.sh (.int other))) (h:aS c [bY c ps d,ao c n T,.int one,.int other]=some (.bl b)):shw c f δ=some (.sh (.bl b)):=by
 unfold shw eK
 rw [meth_no (C':=c.Pocket) (fs:=[("points",ai ps),("door",.int d)]) h8 (Ne.symm hc.1),meth3 (fs:=[("points",ai ps),("door",.int d)]) h8 lkd3 hf h5 h6 h rfl]
theorem fpt_N {ps:List Int} (h8:aa 8 δ=some (.sh (ck c ps))):fpt c δ=some (.sh (ai ps)):=by
 unfold fpt eK
 rw [fldN c h8]
theorem fpt_K (hc:CNe c) {ps:List Int} {d:Int} (h8:aa 8 δ=some (.sh (bY c ps d))):fpt c δ=some (.sh (ai ps)):=by
 unfold fpt eK
 rw [fld_no (C':=c.Pocket) (fs:=[("points",ai ps),("door",.int d)]) h8 (Ne.symm hc.1),fldK c h8]
end
noncomputable def I1:FS:=(dO 6 (dO 2 (gX 8 (f9 3 (eG c) (ab (aa 2) (ab (aa 5) (ab (aa 6) ah)))))))
noncomputable def I2:FS:=(fx 8 ((bo (bf (aj (aw (c5 c) (aa 8)))) (aj (ad oEq (aw (bO c) (aa 8)) (aw (c6 c) (aa 8)))))) (aR (ac (.bl false))) aE)
noncomputable def I3:FS:=(fx 8 ((bo (aj (aw (ez c) (aa 8))) (bo (aj (aw (h9 c) (aa 8))) (aj (ad hZ ((eK (bB c.Numbers "shows" 4 (aL c) (aa 8) (ab (aa 2) (ab (aa 5) (ab (aa 6) ah)))) (bB c.Pocket "shows" 4 (aS c) (aa 8) (ab (aa 2) (ab (aa 5) (ab (aa 6) ah)))))) (ac (.bl true))))))) (aR (ac (.bl false))) aE)
noncomputable def I4:FS:=(fx 8 (aj (aw (bO c) (aa 8))) (av (dO 6 (fx 8 (bf (aj (aq 4 (bU c) (ab (aa 1) (ab (aa 5) (ab (aa 6) (ab (eK (bh (isC c.Numbers) "points" (aa 8)) (bh (isC c.Pocket) "points" (aa 8))) ah))))))) (aR (ac (.bl false))) aE)) (dO 6 (dO 3 (iL 8 9 (aq 4 (bU c) (ab (aa 3) (ab (aa 5) (ab (aa 6) (ab (eK (bh (isC c.Numbers) "points" (aa 8)) (bh (isC c.Pocket) "points" (aa 8))) ah))))))))) (dO 6 (fx 8 (bf (aj (aq 5 (cf c) (ab (aa 1) (ab (aa 5) (ab (aa 6) (ab (eK (bh (isC c.Numbers) "points" (aa 8)) (bh (isC c.Pocket) "points" (aa 8))) (ab (bh (isC c.Pocket) "door" (aa 8)) ah)))))))) (aR (ac (.bl false))) (dO 6 (dO 3 (iL 8 9 (aq 5 (cf c) (ab (aa 3) (ab (aa 5) (ab (aa 6) (ab (eK (bh (isC c.Numbers) "points" (aa 8)) (bh (isC c.Pocket) "points" (aa 8))) (ab (bh (isC c.Pocket) "door" (aa 8)) ah))))))))))))
noncomputable def I5:FS:=(fx 8 (aj (ad oNe ((eK (bB c.Numbers "shows" 4 (aL c) (aa 8) (ab (dnw (dl c.Web 2 (aT c) (ab (ad oIx (aa 3) (ac (.int 0))) (ab (ad oIx (aa 3) (ac (.int 1))) ah)))) (ab (aa 5) (ab (aa 6) ah)))) (bB c.Pocket "shows" 4 (aS c) (aa 8) (ab (dnw (dl c.Web 2 (aT c) (ab (ad oIx (aa 3) (ac (.int 0))) (ab (ad oIx (aa 3) (ac (.int 1))) ah)))) (ab (aa 5) (ab (aa 6) ah)))))) (aa 9))) (aR (ac (.bl false))) aE)
noncomputable def I6:FS:=(salt (ga 8 ([]++[.f c.Numbers "points"]) (aa 5)) (ga 8 ([]++[.f c.Pocket "points"]) (aa 5)))
noncomputable def I7:FS:=(fx 8 (aj (ad hZ ((eK (bB c.Numbers "shows" 4 (aL c) (aa 8) (ab (aa 2) (ab (aa 5) (ab (aa 6) ah)))) (bB c.Pocket "shows" 4 (aS c) (aa 8) (ab (aa 2) (ab (aa 5) (ab (aa 6) ah)))))) (ac (.bl false)))) (aR (ac (.bl false))) aE)
noncomputable def lawIn:FS:=av (I1 c) (av (I2 c) (av (I3 c) (av (I4 c) (av (I5 c) (av (I6 c) (I7 c))))))
noncomputable def O1 (K:PySem.W.Frag):FS:=(sset 5 (aq 3 (aB c) (ab (cj K 0 (aD c K) (ad be (ac (.int 2)) (aa 4))) (ab (ac (.int 1)) (ab (ad oIx (aa 1) (ac (.int 0))) ah)))))
noncomputable def O2 (K:PySem.W.Frag):FS:=(sset 6 (ad oMod (ad be (ad be (aa 5) (ac (.int 1))) (aq 3 (aB c) (ab (cj K 0 (aD c K) (ad be (ac (.int 2)) (aa 4))) (ab (ac (.int 2)) (ab (ad fJ (ad oIx (aa 1) (ac (.int 0))) (ac (.int 1))) ah))))) (ad oIx (aa 1) (ac (.int 0)))))
noncomputable def lawOut (K:PySem.W.Frag):FS:=av (O1 c K) (av (O2 c K) (bW (f8 (ab (ac (.int 2)) ah)) (ar 7) (lawIn c)))
noncomputable def A1 (K:PySem.W.Frag):FS:=(sset 1 (aq 2 (fW c) (ab (ad be (cj K 0 (aD c K) (ac (.int 0))) (ad bX (ac (.int 31)) (cj K 0 (aD c K) (ac (.int 1))))) (ab (ac (.int 2)) ah))))
noncomputable def A2 (K:PySem.W.Frag):FS:=(iA 2 3 (dnw (dl c.Web 2 (aT c) (ab (ad oIx (aa 1) (ac (.int 0))) (ab (ad oIx (aa 1) (ac (.int 1))) ah)))) (b9 (ab (ad oIx (aa 1) (ac (.int 0))) (ab (bL (ad oIx (aa 1) (ac (.int 1))) (bM (ac (.int 1))) cB) ah))))
noncomputable def A4 (K:PySem.W.Frag):FS:=(aR (ad oEq ((bB c.Web "ties" 1 (bG c) (aa 2) ah)) (ad oIx (aa 1) (ac (.int 1)))))
theorem setB1 {i k:Nat} {f:FE} {δ δ':DSt} {b:Bool} (h:f (frz i δ)=some (.sh (.bl b))) (hd:δ.set k (some (.sh (.bl b)))=δ'):iL i k f δ=some (.nx δ'):=by
 unfold iL
 rw [h]
 simp [hd]
section
variable (hc:CNe c) {e0 e4 e7 x8 x9:Option E} {n:Int} {T:List Tie} (W:bc n T) {one other:Int} (h:cz n one other=true)
include hc W h
theorem nI {δ:DSt} (h3:aa 3 δ=some (.sh (am n T.tail))):dnw (dl c.Web 2 (aT c) (ab (ad oIx (aa 3) (ac (.int 0))) (ab (ad oIx (aa 3) (ac (.int 1))) ah))) δ=some (.sh (ao c n T.tail)):=by
 rw [dnw_e,m9 c (iQ W) (r1:=.sh (.int n)) (r2:=.sh (.lst (T.tail.map aJ))) (by rw [aG,fj h3,Option.bind_some,aG,jo h3];rfl) rfl rfl rfl rfl]
 rfl
theorem in_num (hp:g8 n T one other=none) :
  ∃ y8 y9,lawIn c [e0,some (.sh (am n T)),some (.sh (ao c n T)),some (.sh (am n T.tail)),e4,some (.sh (.int one)),some (.sh (.int other)),e7,x8,x9]=some (.nx [e0,some (.sh (am n T)),some (.sh (ao c n T)),some (.sh (am n T.tail)),e4,some (.sh (.int one)),some (.sh (.int other)),e7,y8,y9]):=by
 obtain ⟨row,r1,R,r2⟩:=row_found W h hp
 have d1:=mi c hc W h hp r1
 have d2:=iS c W h R
 rw [r2] at d2
 have d3:=gH c W R
 rw [r2] at d3
 have d4:=gH c (iQ W) R
 have d5:=iS c (iQ W) h R
 have hl:=R.len
 have h8:=W.2.1
 have h1:=W.1
 have d6:=jQ c W h (row:=row++[one]) (by simp;omega) (by simp;omega)
 obtain ⟨a1,a2,a3,a4,a5⟩:=ansN c hc row
 generalize rowB n T.tail row=b at d4 d5
 refine ⟨some (.nw (ck c (row++[one]))),some (.sh (.bl b)),?_⟩
 refine seq1 (δ1:=[e0,some (.sh (am n T)),some (.sh (ao c n T)),some (.sh (am n T.tail)),e4,some (.sh (.int one)),some (.sh (.int other)),e7,some (.nw (ck c row)),x9]) ?_ ?_
 ·
  show gX 8 _ [e0,some (.sh (am n T)),some (.sh (ao c n T)),some (.sh (am n T.tail)),e4,some (.sh (.int one)),some (.sh (.int other)),e7,x8,x9]=_
  exact setN1 (ncall3 (r1:=.sh (ao c n T)) (r2:=.sh (.int one)) (r3:=.sh (.int other)) rfl rfl rfl d1 ⟨rfl,rfl,rfl⟩) rfl
 refine seq1 (gG (cc (eX (aP (eI (d:=ck c row) rfl a1))) (aP (aI (a:=.sh (.bl true)) (b:=.sh (.bl false)) (x:=some (.sh (.bl false))) (eI (d:=ck c row) rfl a2) (eI (d:=ck c row) rfl a3) rfl))) rfl) ?_
 refine seq1 (gG (cc (aP (eI (d:=ck c row) rfl a4)) (cc (aP (eI (d:=ck c row) rfl a5)) (me (a:=true) (shw_N c (f:=aa 2) rfl rfl rfl rfl d2)))) rfl) ?_
 refine seq1 (δ1:=[e0,some (.sh (am n T)),some (.sh (ao c n T)),some (.sh (am n T.tail)),e4,some (.sh (.int one)),some (.sh (.int other)),e7,some (.nw (ck c row)),some (.sh (.bl b))]) ?_ ?_
 ·
  refine ifB_t (aP (eI (d:=ck c row) rfl a2)) (seq1 (δ1:=[e0,some (.sh (am n T)),some (.sh (ao c n T)),some (.sh (am n T.tail)),e4,some (.sh (.int one)),some (.sh (.int other)),e7,some (.nw (ck c row)),x9]) ?_ ?_)
  ·
   rw [ff]
   exact gG (eX (aP (call4 (r1:=.sh (am n T)) (r2:=.sh (.int one)) (r3:=.sh (.int other)) (r4:=.sh (ai row)) rfl rfl rfl (fpt_N c rfl) d3 (.inr rfl)))) rfl
  ·
   rw [ff,ff]
   exact setB1 (call4 (r1:=.sh (am n T.tail)) (r2:=.sh (.int one)) (r3:=.sh (.int other)) (r4:=.sh (ai row)) rfl rfl rfl (fpt_N c rfl) d4 (.inr rfl)) rfl
 refine seq1 (gG (aP (b:=false) (aI (a:=.sh (.bl b)) (b:=.sh (.bl b)) (shw_N c (n:=n) (T:=T.tail) rfl (nI c hc W h rfl) rfl rfl d5) rfl ((oNe_bb b b).trans (by cases b <;> rfl)))) rfl) ?_
 refine seq1 (δ1:=[e0,some (.sh (am n T)),some (.sh (ao c n T)),some (.sh (am n T.tail)),e4,some (.sh (.int one)),some (.sh (.int other)),e7,some (.nw (ck c (row++[one]))),some (.sh (.bl b))]) ?_ ?_
 ·
  have hb:row.length≤big:=by rw [bH];omega
  have hm:ga 8 ([]++[.f c.Numbers "points"]) (aa 5) [e0,some (.sh (am n T)),some (.sh (ao c n T)),some (.sh (am n T.tail)),e4,some (.sh (.int one)),some (.sh (.int other)),e7,some (.nw (ck c row)),some (.sh (.bl b))]=some (.nx [e0,some (.sh (am n T)),some (.sh (ao c n T)),some (.sh (am n T.tail)),e4,some (.sh (.int one)),some (.sh (.int other)),e7,some (.nw (ck c (row++[one]))),some (.sh (.bl b))]):=by
   simp [ga,sub,Ew.putAt,setF,ck,lkN,ai,hb]
  unfold I6 salt
  rw [hm]
 ·
  exact gG (me (a:=false) (shw_N c (f:=aa 2) rfl rfl rfl rfl d6)) rfl
theorem in_poc {d:Int} (hp:g8 n T one other=some d) :
  ∃ y8 y9,lawIn c [e0,some (.sh (am n T)),some (.sh (ao c n T)),some (.sh (am n T.tail)),e4,some (.sh (.int one)),some (.sh (.int other)),e7,x8,x9]=some (.nx [e0,some (.sh (am n T)),some (.sh (ao c n T)),some (.sh (am n T.tail)),e4,some (.sh (.int one)),some (.sh (.int other)),e7,y8,y9]):=by
 obtain ⟨p1,p2,_⟩:=j4 h
 have hd:=List.find?_some (show (pts n).find? _=some d from hp)
 have hdp:=cR.1 (List.mem_of_find?_eq_some (show (pts n).find? _=some d from hp))
 have P:=poc_ok W p1 p2 hdp (by simpa using hd)
 have d1:=mh c hc W h hp
 generalize aO n T one other d=ps at P d1
 have d2:=gI c W h P
 have d3:=gj c W P
 have d4:=gj c (iQ W) P.tail
 have d5:=gI c (iQ W) h P.tail
 have d6:=jR c W h (ps:=ps++[one]) (d:=d) (by simp)
 have hlen:ps.length≤8:=by
  have h1:=List.Nodup.length_le_of_subset (nH P.lt) (l₂:=pts n) (fun p hp=>cR.2 (P.pt p hp))
  rw [dW] at h1
  have:=W.2.1
  omega
 obtain ⟨a1,a2,a3,a4,a5⟩:=ansK c hc ps d
 refine ⟨some (.nw (bY c (ps++[one]) d)),some (.sh (.bl true)),?_⟩
 refine seq1 (δ1:=[e0,some (.sh (am n T)),some (.sh (ao c n T)),some (.sh (am n T.tail)),e4,some (.sh (.int one)),some (.sh (.int other)),e7,some (.nw (bY c ps d)),x9]) ?_ ?_
 ·
  show gX 8 _ [e0,some (.sh (am n T)),some (.sh (ao c n T)),some (.sh (am n T.tail)),e4,some (.sh (.int one)),some (.sh (.int other)),e7,x8,x9]=_
  exact setN1 (ncall3 (r1:=.sh (ao c n T)) (r2:=.sh (.int one)) (r3:=.sh (.int other)) rfl rfl rfl d1 ⟨rfl,rfl,rfl⟩) rfl
 refine seq1 (gG (cc (eX (aP (eI (d:=bY c ps d) rfl a1))) (aP (aI (a:=.sh (.bl false)) (b:=.sh (.bl true)) (x:=some (.sh (.bl false))) (eI (d:=bY c ps d) rfl a2) (eI (d:=bY c ps d) rfl a3) rfl))) rfl) ?_
 refine seq1 (gG (cc (aP (eI (d:=bY c ps d) rfl a4)) (cc (aP (eI (d:=bY c ps d) rfl a5)) (me (a:=true) (shw_K c hc (f:=aa 2) rfl rfl rfl rfl d2)))) rfl) ?_
 refine seq1 (δ1:=[e0,some (.sh (am n T)),some (.sh (ao c n T)),some (.sh (am n T.tail)),e4,some (.sh (.int one)),some (.sh (.int other)),e7,some (.nw (bY c ps d)),some (.sh (.bl true))]) ?_ ?_
 ·
  refine gG (aP (eI (d:=bY c ps d) rfl a2)) ?_
  rw [ff]
  refine gG (eX (aP (call5 (r1:=.sh (am n T)) (r2:=.sh (.int one)) (r3:=.sh (.int other)) (r4:=.sh (ai ps)) (r5:=.sh (.int d)) rfl rfl rfl (fpt_K c hc rfl) (fldD c rfl) d3 (.inr rfl)))) ?_
  rw [ff,ff]
  exact setB1 (call5 (r1:=.sh (am n T.tail)) (r2:=.sh (.int one)) (r3:=.sh (.int other)) (r4:=.sh (ai ps)) (r5:=.sh (.int d)) rfl rfl rfl (fpt_K c hc rfl) (fldD c rfl) d4 (.inr rfl)) rfl
 refine seq1 (gG (aP (b:=false) (aI (a:=.sh (.bl true)) (b:=.sh (.bl true)) (shw_K c hc (n:=n) (T:=T.tail) rfl (nI c hc W h rfl) rfl rfl d5) rfl (oNe_bb true true))) rfl) ?_
 refine seq1 (δ1:=[e0,some (.sh (am n T)),some (.sh (ao c n T)),some (.sh (am n T.tail)),e4,some (.sh (.int one)),some (.sh (.int other)),e7,some (.nw (bY c (ps++[one]) d)),some (.sh (.bl true))]) ?_ ?_
 ·
  have hb:ps.length≤big:=by rw [bH];omega
  have hne:=Ne.symm hc.1
  have hm:ga 8 ([]++[.f c.Pocket "points"]) (aa 5) [e0,some (.sh (am n T)),some (.sh (ao c n T)),some (.sh (am n T.tail)),e4,some (.sh (.int one)),some (.sh (.int other)),e7,some (.nw (bY c ps d)),some (.sh (.bl true))]=some (.nx [e0,some (.sh (am n T)),some (.sh (ao c n T)),some (.sh (am n T.tail)),e4,some (.sh (.int one)),some (.sh (.int other)),e7,some (.nw (bY c (ps++[one]) d)),some (.sh (.bl true))]):=by
   simp [ga,sub,Ew.putAt,setF,bY,lkd1,ai,hb]
  have hn:ga 8 ([]++[.f c.Numbers "points"]) (aa 5) [e0,some (.sh (am n T)),some (.sh (ao c n T)),some (.sh (am n T.tail)),e4,some (.sh (.int one)),some (.sh (.int other)),e7,some (.nw (bY c ps d)),some (.sh (.bl true))]=none:=by
   simp [ga,sub,Ew.putAt,setF,bY,hne]
  unfold I6 salt
  rw [hn]
  exact hm
 ·
  exact gG (me (a:=false) (shw_K c hc (f:=aa 2) rfl rfl rfl rfl d6)) rfl
theorem in_any:∃ y8 y9,lawIn c [e0,some (.sh (am n T)),some (.sh (ao c n T)),some (.sh (am n T.tail)),e4,some (.sh (.int one)),some (.sh (.int other)),e7,x8,x9]=some (.nx [e0,some (.sh (am n T)),some (.sh (ao c n T)),some (.sh (am n T.tail)),e4,some (.sh (.int one)),some (.sh (.int other)),e7,y8,y9]):=by
 cases hp:g8 n T one other with
 | none=>exact in_num c hc W h hp
 | some d=>exact in_poc c hc W h hp
end
theorem in_loop (hc:CNe c) {e0 e4:Option E} {n:Int} {T:List Tie} (W:bc n T) {one other:Int} (h:cz n one other=true):∀ (ks:List Nat) (x7 x8 x9:Option E),
  ∃ y7 y8 y9,bC (ar 7) (lawIn c) (ks.map fun k=>D.int (0+((k:Nat):Int))) [e0,some (.sh (am n T)),some (.sh (ao c n T)),some (.sh (am n T.tail)),e4,some (.sh (.int one)),some (.sh (.int other)),x7,x8,x9]=some (.nx [e0,some (.sh (am n T)),some (.sh (ao c n T)),some (.sh (am n T.tail)),e4,some (.sh (.int one)),some (.sh (.int other)),y7,y8,y9])
 | [],x7,x8,x9=>⟨_,_,_,rfl⟩
 | k::ks,x7,x8,x9=>by
  obtain ⟨y8,y9,hb⟩:=in_any c hc (e0:=e0) (e4:=e4) (e7:=some (.sh (.int (0+(k:Int))))) (x8:=x8) (x9:=x9) W h
  obtain ⟨z7,z8,z9,ih⟩:=in_loop hc (e0:=e0) (e4:=e4) W h ks (some (.sh (.int (0+(k:Int))))) y8 y9
  refine ⟨z7,z8,z9,?_⟩
  rw [List.map_cons]
  unfold bC
  have hg:ar 7 (.int (0+(k:Int))) [e0,some (.sh (am n T)),some (.sh (ao c n T)),some (.sh (am n T.tail)),e4,some (.sh (.int one)),some (.sh (.int other)),x7,x8,x9]=some [e0,some (.sh (am n T)),some (.sh (ao c n T)),some (.sh (am n T.tail)),e4,some (.sh (.int one)),some (.sh (.int other)),some (.sh (.int (0+(k:Int)))),x8,x9]:=rfl
  rw [hg]
  simp only [Option.bind_some]
  rw [hb]
  simp only [Option.bind_some,eW]
  exact ih
theorem law_turn (hc:CNe c) (K:PySem.W.Frag) (ns:List Int) {n:Int} {T:List Tie} (W:bc n T) (hn2:2≤n) {at_:Int} (ha:0≤at_) (x5 x6 x7 x8 x9:Option E) :
  ∃ y5 y6 y7 y8 y9,lawOut c K [some (.scr K ns),some (.sh (am n T)),some (.sh (ao c n T)),some (.sh (am n T.tail)),some (.sh (.int at_)),x5,x6,x7,x8,x9] =
   some (.nx [some (.scr K ns),some (.sh (am n T)),some (.sh (ao c n T)),some (.sh (am n T.tail)),some (.sh (.int at_)),y5,y6,y7,y8,y9]):=by
 obtain ⟨v,hv⟩:=ic c K ns (k:=2+at_) (by omega)
 have cl:∀ r:DSt,cj K 0 (aD c K) (ad be (ac (.int 2)) (aa 4)) (some (.scr K ns)::some (.sh (am n T))::some (.sh (ao c n T))::some (.sh (am n T.tail))::some (.sh (.int at_))::r)=some (.sh (.int v)):=fun r=>ie c (aI (a:=.sh (.int 2)) (b:=.sh (.int at_)) rfl rfl rfl) hv
 obtain ⟨one,d2,o0,o1⟩:=g7 c (fa:=cj K 0 (aD c K) (ad be (ac (.int 2)) (aa 4))) (fm:=ad oIx (aa 1) (ac (.int 0))) (δ:=[some (.scr K ns),some (.sh (am n T)),some (.sh (ao c n T)),some (.sh (am n T.tail)),some (.sh (.int at_)),x5,x6,x7,x8,x9]) (cell:=v) (many:=n) 1 (by omega) (cl _) (fj rfl) (by omega)
 obtain ⟨u,d3,u0,u1⟩:=g7 c (fa:=cj K 0 (aD c K) (ad be (ac (.int 2)) (aa 4))) (fm:=ad fJ (ad oIx (aa 1) (ac (.int 0))) (ac (.int 1))) (δ:=[some (.scr K ns),some (.sh (am n T)),some (.sh (ao c n T)),some (.sh (am n T.tail)),some (.sh (.int at_)),some (.sh (.int one)),x6,x7,x8,x9]) (cell:=v) (many:=n-1) 2 (by omega) (cl _) (aI (a:=.sh (.int n)) (b:=.sh (.int 1)) (fj rfl) rfl rfl) (by omega)
 have hoth:0≤(one+1+u) % n∧(one+1+u) % n<n∧one≠(one+1+u) % n:=by
  refine ⟨Int.emod_nonneg _ (by omega),Int.emod_lt_of_pos _ (by omega),?_⟩
  by_cases hlt:one+1+u<n
  ·
   rw [Int.emod_eq_of_lt (by omega) hlt];omega
  ·
   have:(one+1+u) % n=one+1+u-n:=by
    rw [←Int.sub_emod_right,Int.emod_eq_of_lt (by omega) (by omega)]
   omega
 have s3:O2 c K [some (.scr K ns),some (.sh (am n T)),some (.sh (ao c n T)),some (.sh (am n T.tail)),some (.sh (.int at_)),some (.sh (.int one)),x6,x7,x8,x9]=some (.nx [some (.scr K ns),some (.sh (am n T)),some (.sh (ao c n T)),some (.sh (am n T.tail)),some (.sh (.int at_)),some (.sh (.int one)),some (.sh (.int ((one+1+u) % n))),x7,x8,x9]):=
  dH (r:=.sh (.int ((one+1+u) % n))) (aI (a:=.sh (.int (one+1+u))) (b:=.sh (.int n)) (aI (a:=.sh (.int (one+1))) (b:=.sh (.int u)) (aI (a:=.sh (.int one)) (b:=.sh (.int 1)) rfl rfl rfl) d3 rfl) (fj rfl) (modP (by omega))) rfl rfl
 generalize (one+1+u) % n=other at s3 hoth
 have htwo:cz n one other=true:=by
  unfold cz g5
  simp
  omega
 obtain ⟨y7,y8,y9,hl⟩:=in_loop c hc (e0:=some (.scr K ns)) (e4:=some (.sh (.int at_))) W htwo (List.range 2) x7 x8 x9
 refine ⟨some (.sh (.int one)),some (.sh (.int other)),y7,y8,y9,seq1 (dH d2 rfl rfl) (seq1 s3 ?_)⟩
 have hi:=rngE (f:=ac (.int 2)) (δ:=[some (.scr K ns),some (.sh (am n T)),some (.sh (ao c n T)),some (.sh (am n T.tail)),some (.sh (.int at_)),some (.sh (.int one)),some (.sh (.int other)),x7,x8,x9]) (j:=2) rfl (by omega) (by omega)
 unfold bW
 rw [hi]
 exact hl
theorem nJ (hc:CNe c) (K:PySem.W.Frag) (ns:List Int) {n:Int} {T:List Tie} (W:bc n T) (hn2:2≤n):∀ (ks:List Nat) (x4 x5 x6 x7 x8 x9:Option E),
  ∃ y4 y5 y6 y7 y8 y9,bC (ar 4) (lawOut c K) (ks.map fun k=>D.int (0+((k:Nat):Int))) [some (.scr K ns),some (.sh (am n T)),some (.sh (ao c n T)),some (.sh (am n T.tail)),x4,x5,x6,x7,x8,x9]=some (.nx [some (.scr K ns),some (.sh (am n T)),some (.sh (ao c n T)),some (.sh (am n T.tail)),y4,y5,y6,y7,y8,y9])
 | [],x4,x5,x6,x7,x8,x9=>⟨_,_,_,_,_,_,rfl⟩
 | k::ks,x4,x5,x6,x7,x8,x9=>by
  obtain ⟨y5,y6,y7,y8,y9,hb⟩:=law_turn c hc K ns W hn2 (at_:=0+(k:Int)) (by omega) x5 x6 x7 x8 x9
  obtain ⟨z4,z5,z6,z7,z8,z9,ih⟩:=nJ hc K ns W hn2 ks (some (.sh (.int (0+(k:Int))))) y5 y6 y7 y8 y9
  refine ⟨z4,z5,z6,z7,z8,z9,?_⟩
  rw [List.map_cons]
  unfold bC
  have hg:ar 4 (.int (0+(k:Int))) [some (.scr K ns),some (.sh (am n T)),some (.sh (ao c n T)),some (.sh (am n T.tail)),x4,x5,x6,x7,x8,x9]=some [some (.scr K ns),some (.sh (am n T)),some (.sh (ao c n T)),some (.sh (am n T.tail)),some (.sh (.int (0+(k:Int)))),x5,x6,x7,x8,x9]:=rfl
  rw [hg]
  simp only [Option.bind_some]
  rw [hb]
  simp only [Option.bind_some,eW]
  exact ih
theorem law_true (hc:CNe c) (K:PySem.W.Frag):∀ ns:List Int,ns.length≤63→m_law c K ns=some (.bl true):=by
 intro ns _
 obtain ⟨v0,hv0⟩:=ic c K ns (k:=0) (by omega)
 obtain ⟨v1,hv1⟩:=ic c K ns (k:=1) (by omega)
 obtain ⟨n,T,ht,W,hn2⟩:=told_eq c (v0+31*v1) 2 (by omega) (by omega)
 have hF:F_law c K=av (A1 c K) (av (A2 c K) (av (bW (f8 (ab (ac (.int 2)) ah)) (ar 4) (lawOut c K)) (A4 c K))):=rfl
 have b2:(2:Nat)≤big:=by decide
 obtain ⟨y4,y5,y6,y7,y8,y9,hl⟩:=nJ c hc K ns W hn2 (List.range 2) none none none none none none
 have hr:F_law c K [some (.scr K ns),none,none,none,none,none,none,none,none,none]=some (.rt (.sh (.bl true))):=by
  rw [hF]
  refine seq1 (δ1:=[some (.scr K ns),some (.sh (am n T)),none,none,none,none,none,none,none,none]) ?_ (seq1 (δ1:=[some (.scr K ns),some (.sh (am n T)),some (.sh (ao c n T)),some (.sh (am n T.tail)),none,none,none,none,none,none]) ?_ (seq1 (δ1:=[some (.scr K ns),some (.sh (am n T)),some (.sh (ao c n T)),some (.sh (am n T.tail)),y4,y5,y6,y7,y8,y9]) ?_ ?_))
  ·
   refine dH (fA (r1:=.sh (.int (v0+31*v1))) (r2:=.sh (.int 2)) (aI (a:=.sh (.int v0)) (b:=.sh (.int (31*v1))) (ie c rfl hv0) (aI (a:=.sh (.int 31)) (b:=.sh (.int v1)) rfl (ie c rfl hv1) (mulL (by omega) (by omega))) rfl) rfl ht (.inl ⟨rfl,rfl⟩)) rfl rfl
  ·
   have w1:dnw (dl c.Web 2 (aT c) (ab (ad oIx (aa 1) (ac (.int 0))) (ab (ad oIx (aa 1) (ac (.int 1))) ah))) [some (.scr K ns),some (.sh (am n T)),none,none,none,none,none,none,none,none]=some (.sh (ao c n T)):=by
    rw [dnw_e]
    erw [m9 c W (r1:=.sh (.int n)) (r2:=.sh (.lst (T.map aJ))) (by rw [aG,fj (f:=aa 1) rfl,Option.bind_some,aG,jo (f:=aa 1) rfl];rfl) rfl rfl rfl rfl]
    rfl
   have w2:b9 (ab (ad oIx (aa 1) (ac (.int 0))) (ab (bL (ad oIx (aa 1) (ac (.int 1))) (bM (ac (.int 1))) cB) ah)) [some (.scr K ns),some (.sh (am n T)),none,none,none,none,none,none,none,none]=some (.sh (am n T.tail)):=by
    rw [dtup_e,aG,fj (f:=aa 1) (n:=n) (T:=T) rfl,Option.bind_some,aG,told_1s (f:=aa 1) (n:=n) (T:=T) rfl]
    simp [b2,am]
   unfold A2 iA
   erw [w1]
   simp only [Option.bind_some]
   erw [w2]
   rfl
  ·
   have hi:=rngE (f:=ac (.int 2)) (δ:=[some (.scr K ns),some (.sh (am n T)),some (.sh (ao c n T)),some (.sh (am n T.tail)),none,none,none,none,none,none]) (j:=2) rfl (by omega) (by omega)
   unfold bW
   rw [hi]
   exact hl
  ·
   refine jk (aI (a:=.sh (.lst (T.map aJ))) (b:=.sh (.lst (T.map aJ))) (jn c rfl) (jo rfl) ?_) rfl
   have:=ET.oEqL (show max 1 1+1≤15 by decide) T T
   exact this.trans (by simp)
 unfold m_law runL
 have e:F_law c K (some (.scr K ns)::List.replicate (10-1) none)=some (.rt (.sh (.bl true))):=hr
 rw [e]
 rfl
end Pg
end
section
set_option Elab.async false
set_option linter.all false
set_option maxRecDepth 100000
set_option maxHeartbeats 0
lay_quick PySem.Challenge.rw_earworks_k04_whole_numbered
namespace Hx
open PySem PySem.W L2
noncomputable abbrev Pf:Program:=(PySem.W.Fast.tw2368527892694137696 PySem.W.Fast.tw2224847102197200888).toRowW.1
noncomputable def U (i:Nat):Stmt:=Pf.main.body.getD i (.Pass ⟨0,0,0,0⟩)
noncomputable def M (i j:Nat):Stmt:=inClass (U i) j
abbrev vI:=@Value.int
abbrev vR:=@Value.ref
abbrev vS:=@Value.str
abbrev vN:=Value.none
abbrev vT:=@Value.type
abbrev vB:=@Value.bool
abbrev vU:=@Value.builtin
abbrev kH:=@PyData.keyHash
abbrev dE:=@DictEntry.mk
abbrev d_A:=@ba
abbrev d_B:=@aQ
abbrev d_S:=@ap
noncomputable abbrev y0:String:=PySem.W.SL.s2766695959194262286x5
noncomputable abbrev y1:String:=PySem.W.SL.s5856160107412720595x4
noncomputable abbrev y2:String:=PySem.W.SL.s658472552662922059x5
noncomputable abbrev y3:String:=PySem.W.SL.s14018661285674007319x4
noncomputable abbrev y4:String:=PySem.W.SL.s7097527257260152453x26
noncomputable abbrev y5:String:=PySem.W.SL.s7174869446012820540x8
noncomputable abbrev y6:String:=PySem.W.SL.s11030030927630378310x26
noncomputable abbrev y7:String:=PySem.W.SL.s10062305145149207511x16
noncomputable abbrev y8:String:=PySem.W.SL.s17162191345867700912x4
noncomputable abbrev y9:String:=PySem.W.SL.s2742458400755230247x6
noncomputable abbrev y10:String:=PySem.W.SL.s11443829558043349243x14
noncomputable abbrev y11:String:=PySem.W.SL.s14755015743595814543x17
noncomputable abbrev y12:String:=PySem.W.SL.s6511155373996960695x17
noncomputable abbrev y13:String:=PySem.W.SL.s12411053484034534018x21
noncomputable abbrev y14:String:=PySem.W.SL.s10220274742760427390x26
noncomputable abbrev y15:String:=PySem.W.SL.s4290257624100764138x5
noncomputable abbrev y16:String:=PySem.W.SL.s4860613602091757760x24
noncomputable abbrev y17:String:=PySem.W.SL.s6070975301684473832x10
noncomputable abbrev y18:String:=PySem.W.SL.s5946037652744460706x9
noncomputable abbrev y19:String:=PySem.W.SL.s4278001404047624695x13
noncomputable abbrev y20:String:=PySem.W.SL.s4209523147560561109x18
def z0:Str:=⟨⟨[60,109,111,100,117,108,101,62]⟩⟩
def z1:Str:=⟨⟨[47,99,108,97,105,109,47,99,117,116,46,112,121]⟩⟩
def z2:Str:=⟨⟨[95,95,109,97,105,110,95,95]⟩⟩
def z3:Str:=⟨⟨[95,95,110,97,109,101,95,95]⟩⟩
def z4:Str:=⟨⟨[101,97,114,119,111,114,107,115,46,97,110,115,119,101,114,115]⟩⟩
def z5:Str:=⟨⟨[95,95,100,111,99,95,95]⟩⟩
def z6:Str:=⟨⟨[95,95,112,97,99,107,97,103,101,95,95]⟩⟩
def z7:Str:=⟨⟨[95,95,108,111,97,100,101,114,95,95]⟩⟩
def z8:Str:=⟨⟨[95,95,115,112,101,99,95,95]⟩⟩
def z9:Str:=⟨⟨[95,95,97,110,110,111,116,97,116,105,111,110,115,95,95]⟩⟩
def z10:Str:=⟨⟨[95,95,98,117,105,108,116,105,110,115,95,95]⟩⟩
def z11:Str:=⟨⟨[95,95,102,105,108,101,95,95]⟩⟩
def z12:Str:=⟨⟨[95,95,99,97,99,104,101,100,95,95]⟩⟩
def z13:Str:=⟨⟨[105,115,95,110,117,109,98,101,114]⟩⟩
def z14:Str:=⟨⟨[104,97,115,95,112,111,105,110,116]⟩⟩
def z15:Str:=⟨⟨[97,114,101,95,116,119,111,95,112,111,105,110,116,115]⟩⟩
def z16:Str:=⟨⟨[97,108,108,95,112,111,105,110,116,115]⟩⟩
def z17:Str:=⟨⟨[105,115,95,112,111,105,110,116,95,115,101,116]⟩⟩
def z18:Str:=⟨⟨[112,111,105,110,116,115,95,108,101,102,116,95,116,111]⟩⟩
def z19:Str:=⟨⟨[105,115,95,108,101,102,116,95,98,121,95,100,111,111,114]⟩⟩
def z20:Str:=⟨⟨[114,101,97,99,104,101,100]⟩⟩
def z21:Str:=⟨⟨[105,115,95,116,105,101,100,95,98,111,116,104,95,119,97,121,115]⟩⟩
def z22:Str:=⟨⟨[118,97,108,117,101]⟩⟩
def z23:Str:=⟨⟨[101,97,114,119,111,114,107,115,46,98,97,115,105,99,115]⟩⟩
def z24:Str:=⟨⟨[119,101,98]⟩⟩
def z25:Str:=⟨⟨[112,111,105,110,116]⟩⟩
def z26:Str:=⟨⟨[111,110,101]⟩⟩
def z27:Str:=⟨⟨[111,116,104,101,114]⟩⟩
def z28:Str:=⟨⟨[98,101,103,105,110]⟩⟩
def z29:Str:=⟨⟨[115,116,101,112,115]⟩⟩
def z30:Str:=⟨⟨[102,111,117,110,100]⟩⟩
def z31:Str:=⟨⟨[112,108,97,99,101]⟩⟩
def z32:Str:=⟨⟨[115,116,101,112]⟩⟩
def z33:Str:=⟨⟨[65,110,115,119,101,114]⟩⟩
def z34:Str:=⟨⟨[95,95,109,111,100,117,108,101,95,95]⟩⟩
def z35:Str:=⟨⟨[95,95,113,117,97,108,110,97,109,101,95,95]⟩⟩
def z36:Str:=⟨⟨[95,95,102,105,114,115,116,108,105,110,101,110,111,95,95]⟩⟩
def z37:Str:=⟨⟨[95,95,115,116,97,116,105,99,95,97,116,116,114,105,98,117,116,101,115,95,95]⟩⟩
def z38:Str:=⟨⟨[95,95,100,105,99,116,95,95]⟩⟩
def z39:Str:=⟨⟨[95,95,119,101,97,107,114,101,102,95,95]⟩⟩
def z40:Str:=⟨⟨[66,97,114]⟩⟩
def z41:Str:=⟨⟨[95,95,105,110,105,116,95,95]⟩⟩
def z42:Str:=⟨⟨[115,104,111,119,115]⟩⟩
def z43:Str:=⟨⟨[115,101,108,102]⟩⟩
def z44:Str:=⟨⟨[112,111,105,110,116,115]⟩⟩
def z45:Str:=⟨⟨[66,97,114,46,95,95,105,110,105,116,95,95]⟩⟩
def z46:Str:=⟨⟨[66,97,114,46,115,104,111,119,115]⟩⟩
def z47:Str:=⟨⟨[74,111,105,110,116]⟩⟩
def z48:Str:=⟨⟨[111,116,104,101,114,115]⟩⟩
def z49:Str:=⟨⟨[74,111,105,110,116,46,95,95,105,110,105,116,95,95]⟩⟩
def z50:Str:=⟨⟨[74,111,105,110,116,46,115,104,111,119,115]⟩⟩
def z51:Str:=⟨⟨[78,117,109,98,101,114,115]⟩⟩
def z52:Str:=⟨⟨[78,117,109,98,101,114,115,46,95,95,105,110,105,116,95,95]⟩⟩
def z53:Str:=⟨⟨[78,117,109,98,101,114,115,46,115,104,111,119,115]⟩⟩
def z54:Str:=⟨⟨[101,97,114,119,111,114,107,115,46,101,114,114,111,114,115]⟩⟩
def z55:Str:=⟨⟨[80,111,99,107,101,116]⟩⟩
def z56:Str:=⟨⟨[100,111,111,114]⟩⟩
def z57:Str:=⟨⟨[80,111,99,107,101,116,46,95,95,105,110,105,116,95,95]⟩⟩
def z58:Str:=⟨⟨[80,111,99,107,101,116,46,115,104,111,119,115]⟩⟩
def z59:Str:=⟨⟨[87,101,98,69,114,114,111,114]⟩⟩
def z60:Str:=⟨⟨[66,97,100,87,101,98]⟩⟩
def z61:Str:=⟨⟨[101,97,114,119,111,114,107,115,46,119,101,98,115]⟩⟩
def z62:Str:=⟨⟨[66,97,100,80,111,105,110,116]⟩⟩
def z63:Str:=⟨⟨[115,116,101,112,115,95,111,102]⟩⟩
def z64:Str:=⟨⟨[115,116,101,112,115,95,98,101,115,105,100,101]⟩⟩
def z65:Str:=⟨⟨[115,104,111,114,116,101,115,116,95,119,97,108,107]⟩⟩
def z66:Str:=⟨⟨[115,116,101,112,95,97,110,100,95,119,97,108,107]⟩⟩
def z67:Str:=⟨⟨[119,97,121,95,111,118,101,114]⟩⟩
def z68:Str:=⟨⟨[77,79,83,84,95,80,79,73,78,84,83]⟩⟩
def z69:Str:=⟨⟨[116,105,101]⟩⟩
def z70:Str:=⟨⟨[101,97,114,119,111,114,107,115,46,102,108,111,119,115]⟩⟩
def z71:Str:=⟨⟨[101,110,100,115]⟩⟩
def z72:Str:=⟨⟨[119,97,108,107,115]⟩⟩
def z73:Str:=⟨⟨[109,101,116]⟩⟩
def z74:Str:=⟨⟨[119,97,108,107]⟩⟩
def z75:Str:=⟨⟨[101,97,114,119,111,114,107,115,46,98,101,116,119,101,101,110]⟩⟩
def z76:Str:=⟨⟨[77,79,83,84,95,84,73,69,83]⟩⟩
def z77:Str:=⟨⟨[105,115,95,116,105,101]⟩⟩
def z78:Str:=⟨⟨[87,101,98]⟩⟩
def z79:Str:=⟨⟨[97,114,101,95,112,111,105,110,116,115,95,111,102]⟩⟩
def z80:Str:=⟨⟨[114,101,102,117,115,101,95,112,111,105,110,116,115]⟩⟩
def z81:Str:=⟨⟨[112,111,105,110,116,115,95,98,101,104,105,110,100]⟩⟩
def z82:Str:=⟨⟨[116,105,101,115]⟩⟩
def z83:Str:=⟨⟨[87,101,98,46,95,95,105,110,105,116,95,95]⟩⟩
def z84:Str:=⟨⟨[87,101,98,46,116,105,101,115]⟩⟩
def z85:Str:=⟨⟨[112,97,105,114,115]⟩⟩
def z86:Str:=⟨⟨[108,97,119,95,101,97,114,119,111,114,107,115,95,107,48,52,95,119,104,111,108,101,95,110,117,109,98,101,114,101,100]⟩⟩
def z87:Str:=⟨⟨[119,105,116,104,95,119,97,121]⟩⟩
def z88:Str:=⟨⟨[114,111,119,95,98,101,116,119,101,101,110]⟩⟩
def z89:Str:=⟨⟨[110,117,109,98,101,114,101,100]⟩⟩
def z90:Str:=⟨⟨[95,108,97,119,95,99,101,108,108,95,97,116]⟩⟩
def z91:Str:=⟨⟨[95,108,97,119,95,100,114,97,119]⟩⟩
def z92:Str:=⟨⟨[95,108,97,119,95,116,111,108,100]⟩⟩
def z93:Str:=⟨⟨[95,108,97,119,95,108,101,97,118,105,110,103]⟩⟩
def z94:Str:=⟨⟨[95,108,97,119,95,114,105,115,105,110,103]⟩⟩
def z95:Str:=⟨⟨[95,108,97,119,95,110,117,109,98,101,114,115]⟩⟩
def z96:Str:=⟨⟨[95,108,97,119,95,112,111,99,107,101,116]⟩⟩
def z97:Str:=⟨⟨[108,97,119]⟩⟩
def z98:Str:=⟨⟨[114,111,119]⟩⟩
def z99:Str:=⟨⟨[95,108,97,119,95,115,99,114,105,112,116]⟩⟩
def z100:Str:=⟨⟨[95,108,97,119,95,107]⟩⟩
def z101:Str:=⟨⟨[95,108,97,119,95,99,101,108,108]⟩⟩
def z102:Str:=⟨⟨[95,108,97,119,95,109,97,110,121]⟩⟩
def z103:Str:=⟨⟨[95,108,97,119,95,112,114,105,109,101,115]⟩⟩
def z104:Str:=⟨⟨[95,108,97,119,95,108,101,97,115,116]⟩⟩
def z105:Str:=⟨⟨[95,108,97,119,95,112,111,105,110,116,115]⟩⟩
def z106:Str:=⟨⟨[95,108,97,119,95,107,105,110,100]⟩⟩
def z107:Str:=⟨⟨[95,108,97,119,95,116,105,101,115]⟩⟩
def z108:Str:=⟨⟨[95,108,97,119,95,116,117,114,110]⟩⟩
def z109:Str:=⟨⟨[95,108,97,119,95,111,110,101]⟩⟩
def z110:Str:=⟨⟨[95,108,97,119,95,111,116,104,101,114]⟩⟩
def z111:Str:=⟨⟨[95,108,97,119,95,109,111,115,116]⟩⟩
def z112:Str:=⟨⟨[95,108,97,119,95,115,111,109,101]⟩⟩
def z113:Str:=⟨⟨[95,108,97,119,95,108,97,115,116]⟩⟩
def z114:Str:=⟨⟨[95,108,97,119,95,112,111,105,110,116]⟩⟩
def z115:Str:=⟨⟨[95,108,97,119,95,116,111,108,100,95,104,101,114,101]⟩⟩
def z116:Str:=⟨⟨[95,108,97,119,95,119,101,98]⟩⟩
def z117:Str:=⟨⟨[95,108,97,119,95,108,101,115,115]⟩⟩
def z118:Str:=⟨⟨[95,108,97,119,95,97,116]⟩⟩
def z119:Str:=⟨⟨[95,108,97,119,95,97,103,97,105,110]⟩⟩
def z120:Str:=⟨⟨[95,108,97,119,95,102,111,117,110,100]⟩⟩
def z121:Str:=⟨⟨[95,108,97,119,95,100,117,101]⟩⟩
noncomputable def oT (l:List Value):Params→Obj:=fun _=>Obj.mk (vT y0) none (.seq l.toArray 0) #[]
noncomputable def oF (l:List Value):Params→Obj:=fun _=>Obj.mk vN none (.fields l.toArray) #[]
noncomputable def oC (a:Str) (a':Nat) (b:Str) (b' c:Nat) (d:Int) (e f:Int) (h:Nat) (i:Bool) (j k l m:Nat) (n o:Int) (p:Nat):Params→Obj:=fun _=>Obj.mk (vT y1) none (.fields #[vS a a',vS b b',vS z1 c,vI d 0,vI e 0,vI 0 0,vI 0 0,vI f 0,vR h,vB i,vI 181 0,vR j,vN,vR k,vR l,vR m,vI n 0,vI o 0,vS z1 p]) #[]
noncomputable def oG (a b:Str) (s:Stmt):Params→Obj:=fun _=>Obj.mk vN none (.func (FuncData.mk a b (d_A s) (.stmts (d_B s)) (d_S s) 0 [] vN vN vN vN none vN vN 0)) #[]
noncomputable def oH (a b:Str) (s:Stmt) (m:Str) (k r:Nat):Params→Obj:=fun _=>Obj.mk (vT y5) none (.func (FuncData.mk a b (d_A s) (.stmts (d_B s)) (d_S s) 3 [] vN vN vN (vS m k) none (vR r) vN 0)) #[]
def ev {α:Type}:List α→List α
 | []=>[]
 | [x]=>[x]
 | x::_::r=>x::ev r
def od {α:Type}:List α→List α
 | []=>[]
 | [_]=>[]
 | _::y::r=>y::od r
def bt (P:Params):Nat→List (Params→Obj)→BT
 | 0,_=>.nil
 | _+1,[]=>.nil
 | f+1,x::xs=>.node (x P) (bt P f (ev xs)) (bt P f (od xs))
noncomputable def l0:List (Params→Obj):=[boot_o_0,boot_o_1,boot_o_2,boot_o_3,boot_o_4,boot_o_5,boot_o_6,boot_o_7,boot_o_8,boot_o_9,boot_o_10,oT [],oF [],fun _=>Obj.mk (vT y1) none (.fields #[vS z0 182,vS z0 183,vS z1 184,vI 1 0,vI 0 0,vI 0 0,vI 0 0,vI 0 0,vR 11,vB false,vI 181 0,vR 12,vN,vN,vN,vN,vI 185 0,vI 1 0,vS z1 186]) #[],fun _=>Obj.mk (vT y2) none .plain #[some (vR 13),some (vR 3),some (vR 3),none,some (vS z2 164),none,some (vR 0)]]
noncomputable def t0 (P:Params):BT:=bt P 10 l0
noncomputable def l1:List (Params→Obj):=((l0.set 3 (fun P=>Obj.mk (vT y3) none (.dict #[dE (kH P z3) (vS z3 165) (vS z4 249),dE (kH P z5) (vS z5 166) vN,dE (kH P z6) (vS z6 167) vN,dE (kH P z7) (vS z7 168) (vU y4),dE (kH P z8) (vS z8 169) vN,dE (kH P z9) (vS z9 170) (vR 6),dE (kH P z10) (vS z10 171) (vR 4),dE (kH P z11) (vS z11 173) (vS z1 172),dE (kH P z12) (vS z12 174) vN,dE (kH P z13) (vS z13 195) (vR 21),dE (kH P z14) (vS z14 203) (vR 28),dE (kH P z15) (vS z15 212) (vR 35),dE (kH P z16) (vS z16 219) (vR 42),dE (kH P z17) (vS z17 225) (vR 47),dE (kH P z18) (vS z18 231) (vR 52),dE (kH P z19) (vS z19 237) (vR 57),dE (kH P z20) (vS z20 248) (vR 64),dE (kH P z21) (vS z21 256) (vR 69)] 18) #[])).set 12 (oF [vI 2 0,vI 0 0,vR 20,vI 4 0,vI 0 0,vR 27,vI 6 0,vI 0 0,vR 34,vI 8 0,vI 0 0,vR 41,vI 10 0,vI 0 0,vR 46,vI 12 0,vI 0 0,vR 51,vI 15 0,vI 0 0,vR 56,vI 21 0,vI 0 0,vR 63,vI 31 0,vI 0 0,vR 68]))++[oT [],oF [],oT [vS z22 192],oT [],oG z13 z13 (U 1),oC z13 189 z13 190 191 2 1 3 15 true 16 17 18 19 193 2 194,oH z13 z13 (U 1) z23 187 20,oT [],oF [],oT [vS z24 199,vS z25 200],oT [],oG z14 z14 (U 2),oC z14 196 z14 197 198 4 2 3 22 true 23 24 25 26 201 4 202,oH z14 z14 (U 2) z23 187 27,oT [],oF [],oT [vS z24 207,vS z26 208,vS z27 209],oT [],oG z15 z15 (U 3),oC z15 204 z15 205 206 6 3 3 29 true 30 31 32 33 210 6 211,oH z15 z15 (U 3) z23 187 34,oT [],oF [],oT [vS z24 216],oT [],oG z16 z16 (U 4),oC z16 213 z16 214 215 8 1 3 36 true 37 38 39 40 217 8 218,oH z16 z16 (U 4) z23 187 41,oT [],oF [],oG z17 z17 (U 5),fun _=>Obj.mk (vT y1) none (.fields #[vS z17 220,vS z17 221,vS z1 222,vI 10 0,vI 2 0,vI 0 0,vI 0 0,vI 3 0,vR 43,vB true,vI 181 0,vR 44,vN,vN,vN,vR 45,vI 223 0,vI 10 0,vS z1 224]) #[],oH z17 z17 (U 5) z23 187 46,oT [],oF [],oG z18 z18 (U 6),fun _=>Obj.mk (vT y1) none (.fields #[vS z18 226,vS z18 227,vS z1 228,vI 12 0,vI 2 0,vI 0 0,vI 0 0,vI 3 0,vR 48,vB true,vI 181 0,vR 49,vN,vN,vN,vR 50,vI 229 0,vI 12 0,vS z1 230]) #[],oH z18 z18 (U 6) z23 187 51,oT [],oF [],oG z19 z19 (U 7),fun _=>Obj.mk (vT y1) none (.fields #[vS z19 232,vS z19 233,vS z1 234,vI 15 0,vI 3 0,vI 0 0,vI 0 0,vI 3 0,vR 53,vB true,vI 181 0,vR 54,vN,vN,vN,vR 55,vI 235 0,vI 15 0,vS z1 236]) #[],oH z19 z19 (U 7) z23 187 56,oT [],oF [],oT [vS z28 241,vS z29 242,vS z30 243,vS z31 244,vS z32 245],oT [],oG z20 z20 (U 8),oC z20 238 z20 239 240 21 2 3 58 true 59 60 61 62 246 21 247,oH z20 z20 (U 8) z23 187 63,oT [],oF [],oG z21 z21 (U 10),fun _=>Obj.mk (vT y1) none (.fields #[vS z21 251,vS z21 252,vS z1 253,vI 31 0,vI 3 0,vI 0 0,vI 0 0,vI 3 0,vR 65,vB true,vI 181 0,vR 66,vN,vN,vN,vR 67,vI 254 0,vI 31 0,vS z1 255]) #[],oH z21 z21 (U 10) z4 249 68]
noncomputable def t1 (P:Params):BT:=bt P 10 l1
noncomputable def l2:List (Params→Obj):=((l1.set 3 (fun P=>Obj.mk (vT y3) none (.dict #[dE (kH P z3) (vS z3 165) (vS z4 249),dE (kH P z5) (vS z5 166) vN,dE (kH P z6) (vS z6 167) vN,dE (kH P z7) (vS z7 168) (vU y4),dE (kH P z8) (vS z8 169) vN,dE (kH P z9) (vS z9 170) (vR 6),dE (kH P z10) (vS z10 171) (vR 4),dE (kH P z11) (vS z11 173) (vS z1 172),dE (kH P z12) (vS z12 174) vN,dE (kH P z13) (vS z13 195) (vR 21),dE (kH P z14) (vS z14 203) (vR 28),dE (kH P z15) (vS z15 212) (vR 35),dE (kH P z16) (vS z16 219) (vR 42),dE (kH P z17) (vS z17 225) (vR 47),dE (kH P z18) (vS z18 231) (vR 52),dE (kH P z19) (vS z19 237) (vR 57),dE (kH P z20) (vS z20 248) (vR 64),dE (kH P z21) (vS z21 256) (vR 69),dE (kH P z33) (vS z33 276) (vR 79)] 19) #[])).set 12 (oF [vI 2 0,vI 0 0,vR 20,vI 4 0,vI 0 0,vR 27,vI 6 0,vI 0 0,vR 34,vI 8 0,vI 0 0,vR 41,vI 10 0,vI 0 0,vR 46,vI 12 0,vI 0 0,vR 51,vI 15 0,vI 0 0,vR 56,vI 21 0,vI 0 0,vR 63,vI 31 0,vI 0 0,vR 68,vI 36 0,vI 0 0,vR 75]))++[oT [],fun _=>Obj.mk (vT y6) none (.fields #[vU y7,vT y8]) #[],fun P=>Obj.mk (vT y3) none (.dict #[dE (kH P z34) (vS z34 264) (vS z4 249),dE (kH P z35) (vS z35 266) (vS z33 265),dE (kH P z36) (vS z36 268) (vI 36 267),dE (kH P z37) (vS z37 269) (vR 77)] 4) #[],oT [],oF [],fun _=>Obj.mk (vT y1) none (.fields #[vS z33 259,vS z33 260,vS z1 261,vI 36 0,vI 0 0,vI 0 0,vI 0 0,vI 0 0,vR 73,vB false,vI 181 0,vR 74,vN,vN,vN,vN,vI 262 0,vI 36 0,vS z1 263]) #[],fun _=>Obj.mk (vT y2) none .plain #[some (vR 75),some (vR 3),some (vR 72),none,some (vS z4 249),none,some (vR 0)],oT [],fun P=>Obj.mk (vT y3) none (.dict #[dE (kH P z34) (vS z34 264) (vS z4 249),dE (kH P z36) (vS z36 268) (vI 36 267),dE (kH P z37) (vS z37 269) (vR 77),dE (kH P z38) (vS z38 271) (vR 80),dE (kH P z39) (vS z39 273) (vR 81),dE (kH P z5) (vS z5 274) vN] 4) #[],fun _=>Obj.mk (vT y8) none (.cls (ClassData.mk z33 [vT y9] [vR 79,vT y9] 78 z33 true [] [] false none false)) #[none,none,some (vS z33 257),some (vS z33 265),some (vU y10),some (vB true)],fun _=>Obj.mk (vT y11) none (.fields #[vS z38 270,vR 79,vU y12,vU y13]) #[],fun _=>Obj.mk (vT y11) none (.fields #[vS z39 272,vR 79,vU y14,vN]) #[],fun _=>Obj.mk (vT y15) none (.fields #[vR 79,vR 79,vR 79]) #[],fun _=>Obj.mk (vT y6) none (.fields #[vU y16,vR 79]) #[]]
noncomputable def t2 (P:Params):BT:=bt P 10 l2
noncomputable def l3:List (Params→Obj):=(((l2.set 3 (fun P=>Obj.mk (vT y3) none (.dict #[dE (kH P z3) (vS z3 165) (vS z4 249),dE (kH P z5) (vS z5 166) vN,dE (kH P z6) (vS z6 167) vN,dE (kH P z7) (vS z7 168) (vU y4),dE (kH P z8) (vS z8 169) vN,dE (kH P z9) (vS z9 170) (vR 6),dE (kH P z10) (vS z10 171) (vR 4),dE (kH P z11) (vS z11 173) (vS z1 172),dE (kH P z12) (vS z12 174) vN,dE (kH P z13) (vS z13 195) (vR 21),dE (kH P z14) (vS z14 203) (vR 28),dE (kH P z15) (vS z15 212) (vR 35),dE (kH P z16) (vS z16 219) (vR 42),dE (kH P z17) (vS z17 225) (vR 47),dE (kH P z18) (vS z18 231) (vR 52),dE (kH P z19) (vS z19 237) (vR 57),dE (kH P z20) (vS z20 248) (vR 64),dE (kH P z21) (vS z21 256) (vR 69),dE (kH P z33) (vS z33 276) (vR 79),dE (kH P z40) (vS z40 309) (vR 107)] 20) #[])).set 12 (oF [vI 2 0,vI 0 0,vR 20,vI 4 0,vI 0 0,vR 27,vI 6 0,vI 0 0,vR 34,vI 8 0,vI 0 0,vR 41,vI 10 0,vI 0 0,vR 46,vI 12 0,vI 0 0,vR 51,vI 15 0,vI 0 0,vR 56,vI 21 0,vI 0 0,vR 63,vI 31 0,vI 0 0,vR 68,vI 36 0,vI 0 0,vR 75,vI 38 0,vI 0 0,vR 89])).set 79 (fun _=>Obj.mk (vT y8) none (.cls (ClassData.mk z33 [vT y9] [vR 79,vT y9] 78 z33 true [] [vR 107] false none false)) #[none,none,some (vS z33 257),some (vS z33 265),some (vU y10),some (vB true)]))++[oT [vR 79],fun _=>Obj.mk (vT y6) none (.fields #[vU y7,vT y8]) #[],fun P=>Obj.mk (vT y3) none (.dict #[dE (kH P z34) (vS z34 284) (vS z4 249),dE (kH P z35) (vS z35 286) (vS z40 285),dE (kH P z36) (vS z36 288) (vI 38 287),dE (kH P z41) (vS z41 296) (vR 97),dE (kH P z42) (vS z42 304) (vR 104),dE (kH P z37) (vS z37 306) (vR 105)] 6) #[],oT [],oF [vI 40 0,vI 4 0,vR 96,vI 43 0,vI 4 0,vR 103],fun _=>Obj.mk (vT y1) none (.fields #[vS z40 279,vS z40 280,vS z1 281,vI 38 0,vI 0 0,vI 0 0,vI 0 0,vI 0 0,vR 87,vB false,vI 181 0,vR 88,vN,vN,vN,vN,vI 282 0,vI 38 0,vS z1 283]) #[],fun _=>Obj.mk (vT y2) none .plain #[some (vR 89),some (vR 3),some (vR 86),none,some (vS z4 249),none,some (vR 0)],oT [],oF [],oT [vS z43 292,vS z44 293],oT [],oG z41 z45 (M 12 0),oC z41 289 z45 290 291 40 2 3 91 true 92 93 94 95 294 40 295,oH z41 z45 (M 12 0) z4 249 96,oT [],oF [],oT [vS z43 300,vS z24 301],oT [],oG z42 z46 (M 12 1),oC z42 297 z46 298 299 43 2 3 98 true 99 100 101 102 302 43 303,oH z42 z46 (M 12 1) z4 249 103,oT [vS z44 305],fun P=>Obj.mk (vT y3) none (.dict #[dE (kH P z34) (vS z34 284) (vS z4 249),dE (kH P z36) (vS z36 288) (vI 38 287),dE (kH P z41) (vS z41 296) (vR 97),dE (kH P z42) (vS z42 304) (vR 104),dE (kH P z37) (vS z37 306) (vR 105),dE (kH P z5) (vS z5 307) vN] 2) #[],fun _=>Obj.mk (vT y8) none (.cls (ClassData.mk z40 [vR 79] [vR 107,vR 79,vT y9] 106 z40 true [] [] false none false)) #[some (vR 84),none,some (vS z40 277),some (vS z40 285),some (vU y10),some (vB true)],fun _=>Obj.mk (vT y15) none (.fields #[vR 107,vR 107,vR 107]) #[],fun _=>Obj.mk (vT y6) none (.fields #[vU y16,vR 107]) #[]]
noncomputable def t3 (P:Params):BT:=bt P 10 l3
noncomputable def l4:List (Params→Obj):=(((l3.set 3 (fun P=>Obj.mk (vT y3) none (.dict #[dE (kH P z3) (vS z3 165) (vS z4 249),dE (kH P z5) (vS z5 166) vN,dE (kH P z6) (vS z6 167) vN,dE (kH P z7) (vS z7 168) (vU y4),dE (kH P z8) (vS z8 169) vN,dE (kH P z9) (vS z9 170) (vR 6),dE (kH P z10) (vS z10 171) (vR 4),dE (kH P z11) (vS z11 173) (vS z1 172),dE (kH P z12) (vS z12 174) vN,dE (kH P z13) (vS z13 195) (vR 21),dE (kH P z14) (vS z14 203) (vR 28),dE (kH P z15) (vS z15 212) (vR 35),dE (kH P z16) (vS z16 219) (vR 42),dE (kH P z17) (vS z17 225) (vR 47),dE (kH P z18) (vS z18 231) (vR 52),dE (kH P z19) (vS z19 237) (vR 57),dE (kH P z20) (vS z20 248) (vR 64),dE (kH P z21) (vS z21 256) (vR 69),dE (kH P z33) (vS z33 276) (vR 79),dE (kH P z40) (vS z40 309) (vR 107),dE (kH P z47) (vS z47 344) (vR 133)] 21) #[])).set 12 (oF [vI 2 0,vI 0 0,vR 20,vI 4 0,vI 0 0,vR 27,vI 6 0,vI 0 0,vR 34,vI 8 0,vI 0 0,vR 41,vI 10 0,vI 0 0,vR 46,vI 12 0,vI 0 0,vR 51,vI 15 0,vI 0 0,vR 56,vI 21 0,vI 0 0,vR 63,vI 31 0,vI 0 0,vR 68,vI 36 0,vI 0 0,vR 75,vI 38 0,vI 0 0,vR 89,vI 47 0,vI 0 0,vR 115])).set 79 (fun _=>Obj.mk (vT y8) none (.cls (ClassData.mk z33 [vT y9] [vR 79,vT y9] 78 z33 true [] [vR 107,vR 133] false none false)) #[none,none,some (vS z33 257),some (vS z33 265),some (vU y10),some (vB true)]))++[oT [vR 79],fun _=>Obj.mk (vT y6) none (.fields #[vU y7,vT y8]) #[],fun P=>Obj.mk (vT y3) none (.dict #[dE (kH P z34) (vS z34 317) (vS z4 249),dE (kH P z35) (vS z35 319) (vS z47 318),dE (kH P z36) (vS z36 321) (vI 47 320),dE (kH P z41) (vS z41 330) (vR 123),dE (kH P z42) (vS z42 338) (vR 130),dE (kH P z37) (vS z37 341) (vR 131)] 6) #[],oT [],oF [vI 49 0,vI 4 0,vR 122,vI 53 0,vI 4 0,vR 129],fun _=>Obj.mk (vT y1) none (.fields #[vS z47 312,vS z47 313,vS z1 314,vI 47 0,vI 0 0,vI 0 0,vI 0 0,vI 0 0,vR 113,vB false,vI 181 0,vR 114,vN,vN,vN,vN,vI 315 0,vI 47 0,vS z1 316]) #[],fun _=>Obj.mk (vT y2) none .plain #[some (vR 115),some (vR 3),some (vR 112),none,some (vS z4 249),none,some (vR 0)],oT [],oF [],oT [vS z43 325,vS z25 326,vS z48 327],oT [],oG z41 z49 (M 13 0),oC z41 322 z49 323 324 49 3 3 117 true 118 119 120 121 328 49 329,oH z41 z49 (M 13 0) z4 249 122,oT [],oF [],oT [vS z43 334,vS z24 335],oT [],oG z42 z50 (M 13 1),oC z42 331 z50 332 333 53 2 3 124 true 125 126 127 128 336 53 337,oH z42 z50 (M 13 1) z4 249 129,oT [vS z48 339,vS z25 340],fun P=>Obj.mk (vT y3) none (.dict #[dE (kH P z34) (vS z34 317) (vS z4 249),dE (kH P z36) (vS z36 321) (vI 47 320),dE (kH P z41) (vS z41 330) (vR 123),dE (kH P z42) (vS z42 338) (vR 130),dE (kH P z37) (vS z37 341) (vR 131),dE (kH P z5) (vS z5 342) vN] 2) #[],fun _=>Obj.mk (vT y8) none (.cls (ClassData.mk z47 [vR 79] [vR 133,vR 79,vT y9] 132 z47 true [] [] false none false)) #[some (vR 110),none,some (vS z47 310),some (vS z47 318),some (vU y10),some (vB true)],fun _=>Obj.mk (vT y15) none (.fields #[vR 133,vR 133,vR 133]) #[],fun _=>Obj.mk (vT y6) none (.fields #[vU y16,vR 133]) #[]]
noncomputable def t4 (P:Params):BT:=bt P 10 l4
noncomputable def l5:List (Params→Obj):=(((l4.set 3 (fun P=>Obj.mk (vT y3) none (.dict #[dE (kH P z3) (vS z3 165) (vS z4 249),dE (kH P z5) (vS z5 166) vN,dE (kH P z6) (vS z6 167) vN,dE (kH P z7) (vS z7 168) (vU y4),dE (kH P z8) (vS z8 169) vN,dE (kH P z9) (vS z9 170) (vR 6),dE (kH P z10) (vS z10 171) (vR 4),dE (kH P z11) (vS z11 173) (vS z1 172),dE (kH P z12) (vS z12 174) vN,dE (kH P z13) (vS z13 195) (vR 21),dE (kH P z14) (vS z14 203) (vR 28),dE (kH P z15) (vS z15 212) (vR 35),dE (kH P z16) (vS z16 219) (vR 42),dE (kH P z17) (vS z17 225) (vR 47),dE (kH P z18) (vS z18 231) (vR 52),dE (kH P z19) (vS z19 237) (vR 57),dE (kH P z20) (vS z20 248) (vR 64),dE (kH P z21) (vS z21 256) (vR 69),dE (kH P z33) (vS z33 276) (vR 79),dE (kH P z40) (vS z40 309) (vR 107),dE (kH P z47) (vS z47 344) (vR 133),dE (kH P z51) (vS z51 375) (vR 157)] 22) #[])).set 12 (oF [vI 2 0,vI 0 0,vR 20,vI 4 0,vI 0 0,vR 27,vI 6 0,vI 0 0,vR 34,vI 8 0,vI 0 0,vR 41,vI 10 0,vI 0 0,vR 46,vI 12 0,vI 0 0,vR 51,vI 15 0,vI 0 0,vR 56,vI 21 0,vI 0 0,vR 63,vI 31 0,vI 0 0,vR 68,vI 36 0,vI 0 0,vR 75,vI 38 0,vI 0 0,vR 89,vI 47 0,vI 0 0,vR 115,vI 55 0,vI 0 0,vR 141])).set 79 (fun _=>Obj.mk (vT y8) none (.cls (ClassData.mk z33 [vT y9] [vR 79,vT y9] 78 z33 true [] [vR 107,vR 133,vR 157] false none false)) #[none,none,some (vS z33 257),some (vS z33 265),some (vU y10),some (vB true)]))++[oT [vR 79],fun _=>Obj.mk (vT y6) none (.fields #[vU y7,vT y8]) #[],fun P=>Obj.mk (vT y3) none (.dict #[dE (kH P z34) (vS z34 352) (vS z4 249),dE (kH P z35) (vS z35 354) (vS z51 353),dE (kH P z36) (vS z36 356) (vI 55 355),dE (kH P z41) (vS z41 364) (vR 149),dE (kH P z42) (vS z42 370) (vR 154),dE (kH P z37) (vS z37 372) (vR 155)] 6) #[],oT [],oF [vI 57 0,vI 4 0,vR 148,vI 60 0,vI 4 0,vR 153],fun _=>Obj.mk (vT y1) none (.fields #[vS z51 347,vS z51 348,vS z1 349,vI 55 0,vI 0 0,vI 0 0,vI 0 0,vI 0 0,vR 139,vB false,vI 181 0,vR 140,vN,vN,vN,vN,vI 350 0,vI 55 0,vS z1 351]) #[],fun _=>Obj.mk (vT y2) none .plain #[some (vR 141),some (vR 3),some (vR 138),none,some (vS z4 249),none,some (vR 0)],oT [],oF [],oT [vS z43 360,vS z44 361],oT [],oG z41 z52 (M 14 0),oC z41 357 z52 358 359 57 2 3 143 true 144 145 146 147 362 57 363,oH z41 z52 (M 14 0) z4 249 148,oT [],oF [],oG z42 z53 (M 14 1),fun _=>Obj.mk (vT y1) none (.fields #[vS z42 365,vS z53 366,vS z1 367,vI 60 0,vI 4 0,vI 0 0,vI 0 0,vI 3 0,vR 150,vB true,vI 181 0,vR 151,vN,vN,vN,vR 152,vI 368 0,vI 60 0,vS z1 369]) #[],oH z42 z53 (M 14 1) z4 249 153,oT [vS z44 371],fun P=>Obj.mk (vT y3) none (.dict #[dE (kH P z34) (vS z34 352) (vS z4 249),dE (kH P z36) (vS z36 356) (vI 55 355),dE (kH P z41) (vS z41 364) (vR 149),dE (kH P z42) (vS z42 370) (vR 154),dE (kH P z37) (vS z37 372) (vR 155),dE (kH P z5) (vS z5 373) vN] 2) #[],fun _=>Obj.mk (vT y8) none (.cls (ClassData.mk z51 [vR 79] [vR 157,vR 79,vT y9] 156 z51 true [] [] false none false)) #[some (vR 136),none,some (vS z51 345),some (vS z51 353),some (vU y10),some (vB true)],fun _=>Obj.mk (vT y15) none (.fields #[vR 157,vR 157,vR 157]) #[],fun _=>Obj.mk (vT y6) none (.fields #[vU y16,vR 157]) #[]]
noncomputable def t5 (P:Params):BT:=bt P 10 l5
noncomputable def l6:List (Params→Obj):=(((l5.set 3 (fun P=>Obj.mk (vT y3) none (.dict #[dE (kH P z3) (vS z3 165) (vS z54 413),dE (kH P z5) (vS z5 166) vN,dE (kH P z6) (vS z6 167) vN,dE (kH P z7) (vS z7 168) (vU y4),dE (kH P z8) (vS z8 169) vN,dE (kH P z9) (vS z9 170) (vR 6),dE (kH P z10) (vS z10 171) (vR 4),dE (kH P z11) (vS z11 173) (vS z1 172),dE (kH P z12) (vS z12 174) vN,dE (kH P z13) (vS z13 195) (vR 21),dE (kH P z14) (vS z14 203) (vR 28),dE (kH P z15) (vS z15 212) (vR 35),dE (kH P z16) (vS z16 219) (vR 42),dE (kH P z17) (vS z17 225) (vR 47),dE (kH P z18) (vS z18 231) (vR 52),dE (kH P z19) (vS z19 237) (vR 57),dE (kH P z20) (vS z20 248) (vR 64),dE (kH P z21) (vS z21 256) (vR 69),dE (kH P z33) (vS z33 276) (vR 79),dE (kH P z40) (vS z40 309) (vR 107),dE (kH P z47) (vS z47 344) (vR 133),dE (kH P z51) (vS z51 375) (vR 157),dE (kH P z55) (vS z55 412) (vR 183)] 23) #[])).set 12 (oF [vI 2 0,vI 0 0,vR 20,vI 4 0,vI 0 0,vR 27,vI 6 0,vI 0 0,vR 34,vI 8 0,vI 0 0,vR 41,vI 10 0,vI 0 0,vR 46,vI 12 0,vI 0 0,vR 51,vI 15 0,vI 0 0,vR 56,vI 21 0,vI 0 0,vR 63,vI 31 0,vI 0 0,vR 68,vI 36 0,vI 0 0,vR 75,vI 38 0,vI 0 0,vR 89,vI 47 0,vI 0 0,vR 115,vI 55 0,vI 0 0,vR 141,vI 66 0,vI 0 0,vR 165])).set 79 (fun _=>Obj.mk (vT y8) none (.cls (ClassData.mk z33 [vT y9] [vR 79,vT y9] 78 z33 true [] [vR 107,vR 133,vR 157,vR 183] false none false)) #[none,none,some (vS z33 257),some (vS z33 265),some (vU y10),some (vB true)]))++[oT [vR 79],fun _=>Obj.mk (vT y6) none (.fields #[vU y7,vT y8]) #[],fun P=>Obj.mk (vT y3) none (.dict #[dE (kH P z34) (vS z34 383) (vS z4 249),dE (kH P z35) (vS z35 385) (vS z55 384),dE (kH P z36) (vS z36 387) (vI 66 386),dE (kH P z41) (vS z41 396) (vR 173),dE (kH P z42) (vS z42 406) (vR 180),dE (kH P z37) (vS z37 409) (vR 181)] 6) #[],oT [],oF [vI 68 0,vI 4 0,vR 172,vI 72 0,vI 4 0,vR 179],fun _=>Obj.mk (vT y1) none (.fields #[vS z55 378,vS z55 379,vS z1 380,vI 66 0,vI 0 0,vI 0 0,vI 0 0,vI 0 0,vR 163,vB false,vI 181 0,vR 164,vN,vN,vN,vN,vI 381 0,vI 66 0,vS z1 382]) #[],fun _=>Obj.mk (vT y2) none .plain #[some (vR 165),some (vR 3),some (vR 162),none,some (vS z4 249),none,some (vR 0)],oT [],oF [],oT [vS z43 391,vS z44 392,vS z56 393],oT [],oG z41 z57 (M 15 0),oC z41 388 z57 389 390 68 3 3 167 true 168 169 170 171 394 68 395,oH z41 z57 (M 15 0) z4 249 172,oT [],oF [],oT [vS z43 400,vS z24 401,vS z26 402,vS z27 403],oT [],oG z42 z58 (M 15 1),oC z42 397 z58 398 399 72 4 3 174 true 175 176 177 178 404 72 405,oH z42 z58 (M 15 1) z4 249 179,oT [vS z56 407,vS z44 408],fun P=>Obj.mk (vT y3) none (.dict #[dE (kH P z34) (vS z34 383) (vS z4 249),dE (kH P z36) (vS z36 387) (vI 66 386),dE (kH P z41) (vS z41 396) (vR 173),dE (kH P z42) (vS z42 406) (vR 180),dE (kH P z37) (vS z37 409) (vR 181),dE (kH P z5) (vS z5 410) vN] 2) #[],fun _=>Obj.mk (vT y8) none (.cls (ClassData.mk z55 [vR 79] [vR 183,vR 79,vT y9] 182 z55 true [] [] false none false)) #[some (vR 160),none,some (vS z55 376),some (vS z55 384),some (vU y10),some (vB true)],fun _=>Obj.mk (vT y15) none (.fields #[vR 183,vR 183,vR 183]) #[],fun _=>Obj.mk (vT y6) none (.fields #[vU y16,vR 183]) #[]]
noncomputable def t6 (P:Params):BT:=bt P 10 l6
noncomputable def l7:List (Params→Obj):=((l6.set 3 (fun P=>Obj.mk (vT y3) none (.dict #[dE (kH P z3) (vS z3 165) (vS z54 413),dE (kH P z5) (vS z5 166) vN,dE (kH P z6) (vS z6 167) vN,dE (kH P z7) (vS z7 168) (vU y4),dE (kH P z8) (vS z8 169) vN,dE (kH P z9) (vS z9 170) (vR 6),dE (kH P z10) (vS z10 171) (vR 4),dE (kH P z11) (vS z11 173) (vS z1 172),dE (kH P z12) (vS z12 174) vN,dE (kH P z13) (vS z13 195) (vR 21),dE (kH P z14) (vS z14 203) (vR 28),dE (kH P z15) (vS z15 212) (vR 35),dE (kH P z16) (vS z16 219) (vR 42),dE (kH P z17) (vS z17 225) (vR 47),dE (kH P z18) (vS z18 231) (vR 52),dE (kH P z19) (vS z19 237) (vR 57),dE (kH P z20) (vS z20 248) (vR 64),dE (kH P z21) (vS z21 256) (vR 69),dE (kH P z33) (vS z33 276) (vR 79),dE (kH P z40) (vS z40 309) (vR 107),dE (kH P z47) (vS z47 344) (vR 133),dE (kH P z51) (vS z51 375) (vR 157),dE (kH P z55) (vS z55 412) (vR 183),dE (kH P z59) (vS z59 432) (vR 195),dE (kH P z60) (vS z60 448) (vR 208)] 25) #[])).set 12 (oF [vI 2 0,vI 0 0,vR 20,vI 4 0,vI 0 0,vR 27,vI 6 0,vI 0 0,vR 34,vI 8 0,vI 0 0,vR 41,vI 10 0,vI 0 0,vR 46,vI 12 0,vI 0 0,vR 51,vI 15 0,vI 0 0,vR 56,vI 21 0,vI 0 0,vR 63,vI 31 0,vI 0 0,vR 68,vI 36 0,vI 0 0,vR 75,vI 38 0,vI 0 0,vR 89,vI 47 0,vI 0 0,vR 115,vI 55 0,vI 0 0,vR 141,vI 66 0,vI 0 0,vR 165,vI 77 0,vI 0 0,vR 191,vI 79 0,vI 0 0,vR 204]))++[oT [vT y17],fun _=>Obj.mk (vT y6) none (.fields #[vU y7,vT y8]) #[],fun P=>Obj.mk (vT y3) none (.dict #[dE (kH P z34) (vS z34 422) (vS z54 413),dE (kH P z35) (vS z35 424) (vS z59 423),dE (kH P z36) (vS z36 426) (vI 77 425),dE (kH P z37) (vS z37 427) (vR 193)] 4) #[],oT [],oF [],fun _=>Obj.mk (vT y1) none (.fields #[vS z59 417,vS z59 418,vS z1 419,vI 77 0,vI 0 0,vI 0 0,vI 0 0,vI 0 0,vR 189,vB false,vI 181 0,vR 190,vN,vN,vN,vN,vI 420 0,vI 77 0,vS z1 421]) #[],fun _=>Obj.mk (vT y2) none .plain #[some (vR 191),some (vR 3),some (vR 188),none,some (vS z54 413),none,some (vR 0)],oT [],fun P=>Obj.mk (vT y3) none (.dict #[dE (kH P z34) (vS z34 422) (vS z54 413),dE (kH P z36) (vS z36 426) (vI 77 425),dE (kH P z37) (vS z37 427) (vR 193),dE (kH P z39) (vS z39 429) (vR 196),dE (kH P z5) (vS z5 430) vN] 3) #[],fun _=>Obj.mk (vT y8) none (.cls (ClassData.mk z59 [vT y17] [vR 195,vT y17,vT y18,vT y19,vT y9] 194 z59 true [] [vR 208] false none false)) #[some (vR 186),none,some (vS z59 415),some (vS z59 423),some (vU y20),some (vB true)],fun _=>Obj.mk (vT y11) none (.fields #[vS z39 428,vR 195,vU y14,vN]) #[],fun _=>Obj.mk (vT y15) none (.fields #[vR 195,vR 195,vR 195]) #[],fun _=>Obj.mk (vT y6) none (.fields #[vU y16,vR 195]) #[],oT [vR 195],fun _=>Obj.mk (vT y6) none (.fields #[vU y7,vT y8]) #[],fun P=>Obj.mk (vT y3) none (.dict #[dE (kH P z34) (vS z34 440) (vS z54 413),dE (kH P z35) (vS z35 442) (vS z60 441),dE (kH P z36) (vS z36 444) (vI 79 443),dE (kH P z37) (vS z37 445) (vR 206)] 4) #[],oT [],oF [],fun _=>Obj.mk (vT y1) none (.fields #[vS z60 435,vS z60 436,vS z1 437,vI 79 0,vI 0 0,vI 0 0,vI 0 0,vI 0 0,vR 202,vB false,vI 181 0,vR 203,vN,vN,vN,vN,vI 438 0,vI 79 0,vS z1 439]) #[],fun _=>Obj.mk (vT y2) none .plain #[some (vR 204),some (vR 3),some (vR 201),none,some (vS z54 413),none,some (vR 0)],oT [],fun P=>Obj.mk (vT y3) none (.dict #[dE (kH P z34) (vS z34 440) (vS z54 413),dE (kH P z36) (vS z36 444) (vI 79 443),dE (kH P z37) (vS z37 445) (vR 206),dE (kH P z5) (vS z5 446) vN] 2) #[],fun _=>Obj.mk (vT y8) none (.cls (ClassData.mk z60 [vR 195] [vR 208,vR 195,vT y17,vT y18,vT y19,vT y9] 207 z60 true [] [] false none false)) #[some (vR 199),none,some (vS z60 433),some (vS z60 441),some (vU y20),some (vB true)],fun _=>Obj.mk (vT y15) none (.fields #[vR 208,vR 208,vR 208]) #[],fun _=>Obj.mk (vT y6) none (.fields #[vU y16,vR 208]) #[]]
noncomputable def t7 (P:Params):BT:=bt P 10 l7
noncomputable def l8:List (Params→Obj):=(((l7.set 3 (fun P=>Obj.mk (vT y3) none (.dict #[dE (kH P z3) (vS z3 165) (vS z61 515),dE (kH P z5) (vS z5 166) vN,dE (kH P z6) (vS z6 167) vN,dE (kH P z7) (vS z7 168) (vU y4),dE (kH P z8) (vS z8 169) vN,dE (kH P z9) (vS z9 170) (vR 6),dE (kH P z10) (vS z10 171) (vR 4),dE (kH P z11) (vS z11 173) (vS z1 172),dE (kH P z12) (vS z12 174) vN,dE (kH P z13) (vS z13 195) (vR 21),dE (kH P z14) (vS z14 203) (vR 28),dE (kH P z15) (vS z15 212) (vR 35),dE (kH P z16) (vS z16 219) (vR 42),dE (kH P z17) (vS z17 225) (vR 47),dE (kH P z18) (vS z18 231) (vR 52),dE (kH P z19) (vS z19 237) (vR 57),dE (kH P z20) (vS z20 248) (vR 64),dE (kH P z21) (vS z21 256) (vR 69),dE (kH P z33) (vS z33 276) (vR 79),dE (kH P z40) (vS z40 309) (vR 107),dE (kH P z47) (vS z47 344) (vR 133),dE (kH P z51) (vS z51 375) (vR 157),dE (kH P z55) (vS z55 412) (vR 183),dE (kH P z59) (vS z59 432) (vR 195),dE (kH P z60) (vS z60 448) (vR 208),dE (kH P z62) (vS z62 464) (vR 220),dE (kH P z63) (vS z63 476) (vR 229),dE (kH P z64) (vS z64 482) (vR 234),dE (kH P z65) (vS z65 496) (vR 241),dE (kH P z66) (vS z66 504) (vR 248),dE (kH P z67) (vS z67 514) (vR 255),dE (kH P z68) (vS z68 518) (vI 8 517)] 32) #[])).set 12 (oF [vI 2 0,vI 0 0,vR 20,vI 4 0,vI 0 0,vR 27,vI 6 0,vI 0 0,vR 34,vI 8 0,vI 0 0,vR 41,vI 10 0,vI 0 0,vR 46,vI 12 0,vI 0 0,vR 51,vI 15 0,vI 0 0,vR 56,vI 21 0,vI 0 0,vR 63,vI 31 0,vI 0 0,vR 68,vI 36 0,vI 0 0,vR 75,vI 38 0,vI 0 0,vR 89,vI 47 0,vI 0 0,vR 115,vI 55 0,vI 0 0,vR 141,vI 66 0,vI 0 0,vR 165,vI 77 0,vI 0 0,vR 191,vI 79 0,vI 0 0,vR 204,vI 81 0,vI 0 0,vR 216,vI 84 0,vI 0 0,vR 228,vI 90 0,vI 0 0,vR 233,vI 92 0,vI 0 0,vR 240,vI 106 0,vI 0 0,vR 247,vI 108 0,vI 0 0,vR 254])).set 195 (fun _=>Obj.mk (vT y8) none (.cls (ClassData.mk z59 [vT y17] [vR 195,vT y17,vT y18,vT y19,vT y9] 194 z59 true [] [vR 208,vR 220] false none false)) #[some (vR 186),none,some (vS z59 415),some (vS z59 423),some (vU y20),some (vB true)]))++[oT [vR 195],fun _=>Obj.mk (vT y6) none (.fields #[vU y7,vT y8]) #[],fun P=>Obj.mk (vT y3) none (.dict #[dE (kH P z34) (vS z34 456) (vS z54 413),dE (kH P z35) (vS z35 458) (vS z62 457),dE (kH P z36) (vS z36 460) (vI 81 459),dE (kH P z37) (vS z37 461) (vR 218)] 4) #[],oT [],oF [],fun _=>Obj.mk (vT y1) none (.fields #[vS z62 451,vS z62 452,vS z1 453,vI 81 0,vI 0 0,vI 0 0,vI 0 0,vI 0 0,vR 214,vB false,vI 181 0,vR 215,vN,vN,vN,vN,vI 454 0,vI 81 0,vS z1 455]) #[],fun _=>Obj.mk (vT y2) none .plain #[some (vR 216),some (vR 3),some (vR 213),none,some (vS z54 413),none,some (vR 0)],oT [],fun P=>Obj.mk (vT y3) none (.dict #[dE (kH P z34) (vS z34 456) (vS z54 413),dE (kH P z36) (vS z36 460) (vI 81 459),dE (kH P z37) (vS z37 461) (vR 218),dE (kH P z5) (vS z5 462) vN] 2) #[],fun _=>Obj.mk (vT y8) none (.cls (ClassData.mk z62 [vR 195] [vR 220,vR 195,vT y17,vT y18,vT y19,vT y9] 219 z62 true [] [] false none false)) #[some (vR 211),none,some (vS z62 449),some (vS z62 457),some (vU y20),some (vB true)],fun _=>Obj.mk (vT y15) none (.fields #[vR 220,vR 220,vR 220]) #[],fun _=>Obj.mk (vT y6) none (.fields #[vU y16,vR 220]) #[],oT [],oF [],oT [vS z24 470,vS z29 471,vS z31 472,vS z69 473],oT [],oG z63 z63 (U 21),oC z63 467 z63 468 469 84 1 3 223 true 224 225 226 227 474 84 475,oH z63 z63 (U 21) z70 465 228,oT [],oF [],oG z64 z64 (U 22),fun _=>Obj.mk (vT y1) none (.fields #[vS z64 477,vS z64 478,vS z1 479,vI 90 0,vI 2 0,vI 0 0,vI 0 0,vI 3 0,vR 230,vB true,vI 181 0,vR 231,vN,vN,vN,vR 232,vI 480 0,vI 90 0,vS z1 481]) #[],oH z64 z64 (U 22) z70 465 233,oT [],oF [],oT [vS z29 486,vS z28 487,vS z71 488,vS z72 489,vS z73 490,vS z31 491,vS z44 492,vS z32 493],oT [],oG z65 z65 (U 23),oC z65 483 z65 484 485 92 3 3 235 true 236 237 238 239 494 92 495,oH z65 z65 (U 23) z70 465 240,oT [],oF [],oT [vS z32 500,vS z74 501],oT [],oG z66 z66 (U 24),oC z66 497 z66 498 499 106 2 3 242 true 243 244 245 246 502 106 503,oH z66 z66 (U 24) z70 465 247,oT [],oF [],oT [vS z29 508,vS z73 509,vS z32 510,vS z74 511],oT [],oG z67 z67 (U 25),oC z67 505 z67 506 507 108 3 3 249 true 250 251 252 253 512 108 513,oH z67 z67 (U 25) z70 465 254]
noncomputable def t8 (P:Params):BT:=bt P 10 l8
noncomputable def l9:List (Params→Obj):=((l8.set 3 (fun P=>Obj.mk (vT y3) none (.dict #[dE (kH P z3) (vS z3 165) (vS z75 564),dE (kH P z5) (vS z5 166) vN,dE (kH P z6) (vS z6 167) vN,dE (kH P z7) (vS z7 168) (vU y4),dE (kH P z8) (vS z8 169) vN,dE (kH P z9) (vS z9 170) (vR 6),dE (kH P z10) (vS z10 171) (vR 4),dE (kH P z11) (vS z11 173) (vS z1 172),dE (kH P z12) (vS z12 174) vN,dE (kH P z13) (vS z13 195) (vR 21),dE (kH P z14) (vS z14 203) (vR 28),dE (kH P z15) (vS z15 212) (vR 35),dE (kH P z16) (vS z16 219) (vR 42),dE (kH P z17) (vS z17 225) (vR 47),dE (kH P z18) (vS z18 231) (vR 52),dE (kH P z19) (vS z19 237) (vR 57),dE (kH P z20) (vS z20 248) (vR 64),dE (kH P z21) (vS z21 256) (vR 69),dE (kH P z33) (vS z33 276) (vR 79),dE (kH P z40) (vS z40 309) (vR 107),dE (kH P z47) (vS z47 344) (vR 133),dE (kH P z51) (vS z51 375) (vR 157),dE (kH P z55) (vS z55 412) (vR 183),dE (kH P z59) (vS z59 432) (vR 195),dE (kH P z60) (vS z60 448) (vR 208),dE (kH P z62) (vS z62 464) (vR 220),dE (kH P z63) (vS z63 476) (vR 229),dE (kH P z64) (vS z64 482) (vR 234),dE (kH P z65) (vS z65 496) (vR 241),dE (kH P z66) (vS z66 504) (vR 248),dE (kH P z67) (vS z67 514) (vR 255),dE (kH P z68) (vS z68 518) (vI 8 517),dE (kH P z76) (vS z76 520) (vI 14 519),dE (kH P z77) (vS z77 528) (vR 262),dE (kH P z78) (vS z78 563) (vR 284),dE (kH P z79) (vS z79 574) (vR 295),dE (kH P z80) (vS z80 583) (vR 302),dE (kH P z81) (vS z81 589) (vR 307)] 38) #[])).set 12 (oF [vI 2 0,vI 0 0,vR 20,vI 4 0,vI 0 0,vR 27,vI 6 0,vI 0 0,vR 34,vI 8 0,vI 0 0,vR 41,vI 10 0,vI 0 0,vR 46,vI 12 0,vI 0 0,vR 51,vI 15 0,vI 0 0,vR 56,vI 21 0,vI 0 0,vR 63,vI 31 0,vI 0 0,vR 68,vI 36 0,vI 0 0,vR 75,vI 38 0,vI 0 0,vR 89,vI 47 0,vI 0 0,vR 115,vI 55 0,vI 0 0,vR 141,vI 66 0,vI 0 0,vR 165,vI 77 0,vI 0 0,vR 191,vI 79 0,vI 0 0,vR 204,vI 81 0,vI 0 0,vR 216,vI 84 0,vI 0 0,vR 228,vI 90 0,vI 0 0,vR 233,vI 92 0,vI 0 0,vR 240,vI 106 0,vI 0 0,vR 247,vI 108 0,vI 0 0,vR 254,vI 114 0,vI 0 0,vR 261,vI 118 0,vI 0 0,vR 268,vI 133 0,vI 0 0,vR 294,vI 135 0,vI 0 0,vR 301,vI 138 0,vI 0 0,vR 306]))++[oT [],oF [],oT [vS z22 524,vS z44 525],oT [],oG z77 z77 (U 29),oC z77 521 z77 522 523 114 2 3 256 true 257 258 259 260 526 114 527,oH z77 z77 (U 29) z61 515 261,oT [],fun _=>Obj.mk (vT y6) none (.fields #[vU y7,vT y8]) #[],fun P=>Obj.mk (vT y3) none (.dict #[dE (kH P z34) (vS z34 536) (vS z61 515),dE (kH P z35) (vS z35 538) (vS z78 537),dE (kH P z36) (vS z36 540) (vI 118 539),dE (kH P z41) (vS z41 546) (vR 274),dE (kH P z82) (vS z82 553) (vR 281),dE (kH P z37) (vS z37 556) (vR 282)] 6) #[],oT [],oF [vI 120 0,vI 4 0,vR 273,vI 130 0,vI 4 0,vR 280],fun _=>Obj.mk (vT y1) none (.fields #[vS z78 531,vS z78 532,vS z1 533,vI 118 0,vI 0 0,vI 0 0,vI 0 0,vI 0 0,vR 266,vB false,vI 181 0,vR 267,vN,vN,vN,vN,vI 534 0,vI 118 0,vS z1 535]) #[],fun _=>Obj.mk (vT y2) none .plain #[some (vR 268),some (vR 3),some (vR 265),none,some (vS z61 515),none,some (vR 0)],oT [],oF [],oG z41 z83 (M 30 0),fun _=>Obj.mk (vT y1) none (.fields #[vS z41 541,vS z83 542,vS z1 543,vI 120 0,vI 3 0,vI 0 0,vI 0 0,vI 3 0,vR 270,vB true,vI 181 0,vR 271,vN,vN,vN,vR 272,vI 544 0,vI 120 0,vS z1 545]) #[],oH z41 z83 (M 30 0) z61 515 273,oT [],oF [],oT [vS z43 550],oT [],oG z82 z84 (M 30 1),oC z82 547 z84 548 549 130 1 3 275 true 276 277 278 279 551 130 552,oH z82 z84 (M 30 1) z61 515 280,oT [vS z85 554,vS z44 555],fun P=>Obj.mk (vT y3) none (.dict #[dE (kH P z34) (vS z34 536) (vS z61 515),dE (kH P z36) (vS z36 540) (vI 118 539),dE (kH P z41) (vS z41 546) (vR 274),dE (kH P z82) (vS z82 553) (vR 281),dE (kH P z37) (vS z37 556) (vR 282),dE (kH P z38) (vS z38 558) (vR 285),dE (kH P z39) (vS z39 560) (vR 286),dE (kH P z5) (vS z5 561) vN] 4) #[],fun _=>Obj.mk (vT y8) none (.cls (ClassData.mk z78 [vT y9] [vR 284,vT y9] 283 z78 true [] [] false none false)) #[none,none,some (vS z78 529),some (vS z78 537),some (vU y10),some (vB true)],fun _=>Obj.mk (vT y11) none (.fields #[vS z38 557,vR 284,vU y12,vU y13]) #[],fun _=>Obj.mk (vT y11) none (.fields #[vS z39 559,vR 284,vU y14,vN]) #[],fun _=>Obj.mk (vT y15) none (.fields #[vR 284,vR 284,vR 284]) #[],fun _=>Obj.mk (vT y6) none (.fields #[vU y16,vR 284]) #[],oT [],oF [],oT [vS z24 569,vS z26 570,vS z27 571],oT [],oG z79 z79 (U 32),oC z79 566 z79 567 568 133 3 3 289 true 290 291 292 293 572 133 573,oH z79 z79 (U 32) z75 564 294,oT [],oF [],oT [vS z24 578,vS z26 579,vS z27 580],oT [],oG z80 z80 (U 33),oC z80 575 z80 576 577 135 3 3 296 true 297 298 299 300 581 135 582,oH z80 z80 (U 33) z75 564 301,oT [],oF [],oG z81 z81 (U 34),fun _=>Obj.mk (vT y1) none (.fields #[vS z81 584,vS z81 585,vS z1 586,vI 138 0,vI 4 0,vI 0 0,vI 0 0,vI 3 0,vR 303,vB true,vI 181 0,vR 304,vN,vN,vN,vR 305,vI 587 0,vI 138 0,vS z1 588]) #[],oH z81 z81 (U 34) z75 564 306]
noncomputable def t9 (P:Params):BT:=bt P 10 l9
noncomputable def l10:List (Params→Obj):=((l9.set 3 (fun P=>Obj.mk (vT y3) none (.dict #[dE (kH P z3) (vS z3 165) (vS z86 616),dE (kH P z5) (vS z5 166) vN,dE (kH P z6) (vS z6 167) vN,dE (kH P z7) (vS z7 168) (vU y4),dE (kH P z8) (vS z8 169) vN,dE (kH P z9) (vS z9 170) (vR 6),dE (kH P z10) (vS z10 171) (vR 4),dE (kH P z11) (vS z11 173) (vS z1 172),dE (kH P z12) (vS z12 174) vN,dE (kH P z13) (vS z13 195) (vR 21),dE (kH P z14) (vS z14 203) (vR 28),dE (kH P z15) (vS z15 212) (vR 35),dE (kH P z16) (vS z16 219) (vR 42),dE (kH P z17) (vS z17 225) (vR 47),dE (kH P z18) (vS z18 231) (vR 52),dE (kH P z19) (vS z19 237) (vR 57),dE (kH P z20) (vS z20 248) (vR 64),dE (kH P z21) (vS z21 256) (vR 69),dE (kH P z33) (vS z33 276) (vR 79),dE (kH P z40) (vS z40 309) (vR 107),dE (kH P z47) (vS z47 344) (vR 133),dE (kH P z51) (vS z51 375) (vR 157),dE (kH P z55) (vS z55 412) (vR 183),dE (kH P z59) (vS z59 432) (vR 195),dE (kH P z60) (vS z60 448) (vR 208),dE (kH P z62) (vS z62 464) (vR 220),dE (kH P z63) (vS z63 476) (vR 229),dE (kH P z64) (vS z64 482) (vR 234),dE (kH P z65) (vS z65 496) (vR 241),dE (kH P z66) (vS z66 504) (vR 248),dE (kH P z67) (vS z67 514) (vR 255),dE (kH P z68) (vS z68 518) (vI 8 517),dE (kH P z76) (vS z76 520) (vI 14 519),dE (kH P z77) (vS z77 528) (vR 262),dE (kH P z78) (vS z78 563) (vR 284),dE (kH P z79) (vS z79 574) (vR 295),dE (kH P z80) (vS z80 583) (vR 302),dE (kH P z81) (vS z81 589) (vR 307),dE (kH P z87) (vS z87 598) (vR 314),dE (kH P z88) (vS z88 604) (vR 319),dE (kH P z89) (vS z89 615) (vR 326),dE (kH P z90) (vS z90 625) (vR 333),dE (kH P z91) (vS z91 635) (vR 340),dE (kH P z92) (vS z92 651) (vR 347),dE (kH P z93) (vS z93 657) (vR 352),dE (kH P z94) (vS z94 667) (vR 359),dE (kH P z95) (vS z95 673) (vR 364),dE (kH P z96) (vS z96 679) (vR 369),dE (kH P z97) (vS z97 695) (vR 376)] 49) #[])).set 12 (oF [vI 2 0,vI 0 0,vR 20,vI 4 0,vI 0 0,vR 27,vI 6 0,vI 0 0,vR 34,vI 8 0,vI 0 0,vR 41,vI 10 0,vI 0 0,vR 46,vI 12 0,vI 0 0,vR 51,vI 15 0,vI 0 0,vR 56,vI 21 0,vI 0 0,vR 63,vI 31 0,vI 0 0,vR 68,vI 36 0,vI 0 0,vR 75,vI 38 0,vI 0 0,vR 89,vI 47 0,vI 0 0,vR 115,vI 55 0,vI 0 0,vR 141,vI 66 0,vI 0 0,vR 165,vI 77 0,vI 0 0,vR 191,vI 79 0,vI 0 0,vR 204,vI 81 0,vI 0 0,vR 216,vI 84 0,vI 0 0,vR 228,vI 90 0,vI 0 0,vR 233,vI 92 0,vI 0 0,vR 240,vI 106 0,vI 0 0,vR 247,vI 108 0,vI 0 0,vR 254,vI 114 0,vI 0 0,vR 261,vI 118 0,vI 0 0,vR 268,vI 133 0,vI 0 0,vR 294,vI 135 0,vI 0 0,vR 301,vI 138 0,vI 0 0,vR 306,vI 142 0,vI 0 0,vR 313,vI 147 0,vI 0 0,vR 318,vI 154 0,vI 0 0,vR 325,vI 162 0,vI 0 0,vR 332,vI 166 0,vI 0 0,vR 339,vI 169 0,vI 0 0,vR 346,vI 191 0,vI 0 0,vR 351,vI 193 0,vI 0 0,vR 358,vI 202 0,vI 0 0,vR 363,vI 212 0,vI 0 0,vR 368,vI 218 0,vI 0 0,vR 375]))++[oT [],oF [],oT [vS z98 593,vS z44 594,vS z31 595],oT [],oG z87 z87 (U 35),oC z87 590 z87 591 592 142 2 3 308 true 309 310 311 312 596 142 597,oH z87 z87 (U 35) z75 564 313,oT [],oF [],oG z88 z88 (U 36),fun _=>Obj.mk (vT y1) none (.fields #[vS z88 599,vS z88 600,vS z1 601,vI 147 0,vI 3 0,vI 0 0,vI 0 0,vI 3 0,vR 315,vB true,vI 181 0,vR 316,vN,vN,vN,vR 317,vI 602 0,vI 147 0,vS z1 603]) #[],oH z88 z88 (U 36) z75 564 318,oT [],oF [],oT [vS z24 608,vS z26 609,vS z27 610,vS z56 611,vS z44 612],oT [],oG z89 z89 (U 37),oC z89 605 z89 606 607 154 3 3 320 true 321 322 323 324 613 154 614,oH z89 z89 (U 37) z75 564 325,oT [],oF [],oT [vS z99 621,vS z100 622],oT [],oG z90 z90 (U 39),oC z90 618 z90 619 620 162 2 3 327 true 328 329 330 331 623 162 624,oH z90 z90 (U 39) z86 616 332,oT [],oF [],oT [vS z101 629,vS z100 630,vS z102 631,vS z103 632],oT [],oG z91 z91 (U 40),oC z91 626 z91 627 628 166 3 3 334 true 335 336 337 338 633 166 634,oH z91 z91 (U 40) z86 616 339,oT [],oF [],oT [vS z101 639,vS z104 640,vS z105 641,vS z106 642,vS z107 643,vS z108 644,vS z100 645,vS z109 646,vS z110 647,vS z111 648],oT [],oG z92 z92 (U 41),oC z92 636 z92 637 638 169 2 3 341 true 342 343 344 345 649 169 650,oH z92 z92 (U 41) z86 616 346,oT [],oF [],oG z93 z93 (U 42),fun _=>Obj.mk (vT y1) none (.fields #[vS z93 652,vS z93 653,vS z1 654,vI 191 0,vI 2 0,vI 0 0,vI 0 0,vI 3 0,vR 348,vB true,vI 181 0,vR 349,vN,vN,vN,vR 350,vI 655 0,vI 191 0,vS z1 656]) #[],oH z93 z93 (U 42) z86 616 351,oT [],oF [],oT [vS z112 661,vS z105 662,vS z113 663,vS z114 664],oT [],oG z94 z94 (U 43),oC z94 658 z94 659 660 193 2 3 353 true 354 355 356 357 665 193 666,oH z94 z94 (U 43) z86 616 358,oT [],oF [],oG z95 z95 (U 44),fun _=>Obj.mk (vT y1) none (.fields #[vS z95 668,vS z95 669,vS z1 670,vI 202 0,vI 4 0,vI 0 0,vI 0 0,vI 3 0,vR 360,vB true,vI 181 0,vR 361,vN,vN,vN,vR 362,vI 671 0,vI 202 0,vS z1 672]) #[],oH z95 z95 (U 44) z86 616 363,oT [],oF [],oG z96 z96 (U 45),fun _=>Obj.mk (vT y1) none (.fields #[vS z96 674,vS z96 675,vS z1 676,vI 212 0,vI 5 0,vI 0 0,vI 0 0,vI 3 0,vR 365,vB true,vI 181 0,vR 366,vN,vN,vN,vR 367,vI 677 0,vI 212 0,vS z1 678]) #[],oH z96 z96 (U 45) z86 616 368,oT [],oF [],oT [vS z99 683,vS z115 684,vS z116 685,vS z117 686,vS z118 687,vS z109 688,vS z110 689,vS z119 690,vS z120 691,vS z121 692],oT [],oG z97 z97 (U 46),oC z97 680 z97 681 682 218 1 3 370 true 371 372 373 374 693 218 694,oH z97 z97 (U 46) z86 616 375]
noncomputable def t10 (P:Params):BT:=bt P 10 l10
noncomputable abbrev BB:List Stmt:=behindTheImports Pf
noncomputable abbrev EE:Env:={ scope:=Pf.main.scope,locals:=mainNs,globals:=mainNs,cells:=[],code:=.ref 13,frame:=some 14 }
theorem pc {tb:String→Option Builtin} {p:Program} {w:World} {n₀:Nat} {ann:Option Value} {env:Env} {q:Pos} {n N k m:Nat} {s s':SharedT} {r:Shared} {b:List Stmt} {c:Code} {pos p':Pos}
  (h:segRunT tb p w n₀ ann 1 n s (piecesOf ((b.drop k).take m) env c pos [topFrame q])=some (.next,s',c,p')) (K:topRun tb p w n₀ ann N s'.abs (restOf (b.drop (k+m)) env c p' [topFrame q])=some r) :
  topRun tb p w n₀ ann (n+N) s.abs (restOf (b.drop k) env c pos [topFrame q])=some r:=by
 have h2:=piece_app (rest:=b.drop (k+m)) (segRun_of h) K
 rwa [←List.drop_drop,List.take_append_drop] at h2
noncomputable def Ha (P:Params):Heap:=⟨⟨l0.map (· P)⟩,{}⟩
noncomputable def H1 (P:Params):Heap:=⟨⟨l10.map (· P)⟩,{}⟩
theorem pre (w:World) (os:OsState):topGo treeTable Pf w 11 (some (.ref 6)) 12 ⟨boot_heap w.params,⟨[]⟩,boot_drawn,boot_toks,os⟩ (topStub Pf)=some (⟨Ha w.params,⟨[]⟩,{},187,os⟩,⟨denote treeTable (.body BB EE),.body BB EE,⟨0,0,0,0⟩,[topFrame ⟨0,0,0,0⟩]⟩):=by
 rw [Fast.te15667345088766844465,Fast.te11892475500146522536,Fast.te14364793385576792824];kernel_rfl
theorem blk (w:World) (os:OsState):segRun treeTable Pf w 11 (some (.ref 6)) 1 1 ⟨Ha w.params,⟨[]⟩,{},187,os⟩ (blockOf BB EE (.body BB EE) ⟨0,0,0,0⟩ [topFrame ⟨0,0,0,0⟩])=some (.next,SharedT.abs ⟨t0 w.params,15,{},⟨[]⟩,{},187,os⟩,.body BB EE,⟨0,0,0,0⟩):=by
 rw [Fast.te14374325043358763698,Fast.te14364793385576792824];kernel_rfl
theorem q0 (w:World) (os:OsState):segRunT treeTable Pf w 11 (some (.ref 6)) 1 275 ⟨t0 w.params,15,{},⟨[]⟩,{},187,os⟩ (piecesOf ((BB.drop 0).take 11) EE (.body BB EE) ⟨0,0,0,0⟩ [topFrame ⟨0,0,0,0⟩])=some (.next,⟨t1 w.params,70,{},⟨[]⟩,{},257,os⟩,.body BB EE,⟨31,0,35,27⟩):=by
 rw [Fast.te10110043849684766642,Fast.te14364793385576792824];kernel_rfl
theorem q1 (w:World) (os:OsState):segRunT treeTable Pf w 11 (some (.ref 6)) 1 191 ⟨t1 w.params,70,{},⟨[]⟩,{},257,os⟩ (piecesOf ((BB.drop 11).take 1) EE (.body BB EE) ⟨31,0,35,27⟩ [topFrame ⟨0,0,0,0⟩])=some (.next,⟨t2 w.params,84,{},⟨[]⟩,{},277,os⟩,.body BB EE,⟨36,0,37,8⟩):=by
 rw [Fast.te10110043849684766642,Fast.te14364793385576792824];kernel_rfl
theorem q2 (w:World) (os:OsState):segRunT treeTable Pf w 11 (some (.ref 6)) 1 278 ⟨t2 w.params,84,{},⟨[]⟩,{},277,os⟩ (piecesOf ((BB.drop 12).take 1) EE (.body BB EE) ⟨36,0,37,8⟩ [topFrame ⟨0,0,0,0⟩])=some (.next,⟨t3 w.params,110,{},⟨[]⟩,{},310,os⟩,.body BB EE,⟨38,0,46,57⟩):=by
 rw [Fast.te10110043849684766642,Fast.te14364793385576792824];kernel_rfl
theorem q3 (w:World) (os:OsState):segRunT treeTable Pf w 11 (some (.ref 6)) 1 280 ⟨t3 w.params,110,{},⟨[]⟩,{},310,os⟩ (piecesOf ((BB.drop 13).take 1) EE (.body BB EE) ⟨38,0,46,57⟩ [topFrame ⟨0,0,0,0⟩])=some (.next,⟨t4 w.params,136,{},⟨[]⟩,{},345,os⟩,.body BB EE,⟨47,0,54,98⟩):=by
 rw [Fast.te10110043849684766642,Fast.te14364793385576792824];kernel_rfl
theorem q4 (w:World) (os:OsState):segRunT treeTable Pf w 11 (some (.ref 6)) 1 274 ⟨t4 w.params,136,{},⟨[]⟩,{},345,os⟩ (piecesOf ((BB.drop 14).take 1) EE (.body BB EE) ⟨47,0,54,98⟩ [topFrame ⟨0,0,0,0⟩])=some (.next,⟨t5 w.params,160,{},⟨[]⟩,{},376,os⟩,.body BB EE,⟨55,0,65,102⟩):=by
 rw [Fast.te10110043849684766642,Fast.te14364793385576792824];kernel_rfl
theorem q5 (w:World) (os:OsState):segRunT treeTable Pf w 11 (some (.ref 6)) 1 291 ⟨t5 w.params,160,{},⟨[]⟩,{},376,os⟩ (piecesOf ((BB.drop 15).take 2) EE (.body BB EE) ⟨55,0,65,102⟩ [topFrame ⟨0,0,0,0⟩])=some (.next,⟨t6 w.params,186,{},⟨[]⟩,{},415,os⟩,.body BB EE,⟨76,0,76,8⟩):=by
 rw [Fast.te10110043849684766642,Fast.te14364793385576792824];kernel_rfl
theorem q6 (w:World) (os:OsState):segRunT treeTable Pf w 11 (some (.ref 6)) 1 400 ⟨t6 w.params,186,{},⟨[]⟩,{},415,os⟩ (piecesOf ((BB.drop 17).take 2) EE (.body BB EE) ⟨76,0,76,8⟩ [topFrame ⟨0,0,0,0⟩])=some (.next,⟨t7 w.params,211,{},⟨[]⟩,{},449,os⟩,.body BB EE,⟨79,0,80,8⟩):=by
 rw [Fast.te10110043849684766642,Fast.te14364793385576792824];kernel_rfl
theorem q7 (w:World) (os:OsState):segRunT treeTable Pf w 11 (some (.ref 6)) 1 397 ⟨t7 w.params,211,{},⟨[]⟩,{},449,os⟩ (piecesOf ((BB.drop 19).take 9) EE (.body BB EE) ⟨79,0,80,8⟩ [topFrame ⟨0,0,0,0⟩])=some (.next,⟨t8 w.params,256,{},⟨[]⟩,{},519,os⟩,.body BB EE,⟨112,0,112,11⟩):=by
 rw [Fast.te10110043849684766642,Fast.te14364793385576792824];kernel_rfl
theorem q8 (w:World) (os:OsState):segRunT treeTable Pf w 11 (some (.ref 6)) 1 387 ⟨t8 w.params,256,{},⟨[]⟩,{},519,os⟩ (piecesOf ((BB.drop 28).take 7) EE (.body BB EE) ⟨112,0,112,11⟩ [topFrame ⟨0,0,0,0⟩])=some (.next,⟨t9 w.params,308,{},⟨[]⟩,{},590,os⟩,.body BB EE,⟨138,0,141,67⟩):=by
 rw [Fast.te10110043849684766642,Fast.te14364793385576792824];kernel_rfl
theorem q9 (w:World) (os:OsState):segRunT treeTable Pf w 11 (some (.ref 6)) 1 348 ⟨t9 w.params,308,{},⟨[]⟩,{},590,os⟩ (piecesOf ((BB.drop 35).take 12) EE (.body BB EE) ⟨138,0,141,67⟩ [topFrame ⟨0,0,0,0⟩])=some (.next,⟨t10 w.params,377,{},⟨[]⟩,{},696,os⟩,.body BB EE,⟨218,0,243,47⟩):=by
 rw [Fast.te10110043849684766642,Fast.te14364793385576792824];kernel_rfl
theorem fin (w:World) (os:OsState):topRun treeTable Pf w 11 (some (.ref 6)) 2 (SharedT.abs ⟨t10 w.params,377,{},⟨[]⟩,{},696,os⟩) ⟨doneF .next,.body BB EE,⟨218,0,243,47⟩,[topFrame ⟨0,0,0,0⟩]⟩=some ⟨H1 w.params,⟨[]⟩,{},696,os⟩:=by
 rw [Fast.te14082659384304107361,Fast.te14364793385576792824];kernel_rfl
theorem nil0:BB.drop 47=[]:=by kernel_rfl
theorem fin1 (w:World) (os:OsState):topRun treeTable Pf w 11 (some (.ref 6)) 2 (SharedT.abs ⟨t10 w.params,377,{},⟨[]⟩,{},696,os⟩) (restOf (BB.drop 47) EE (.body BB EE) ⟨218,0,243,47⟩ [topFrame ⟨0,0,0,0⟩])=some ⟨H1 w.params,⟨[]⟩,{},696,os⟩:=by
 rw [nil0];exact piece_nil (fin w os)
theorem run (w:World) (os:OsState):topRun treeTable Pf w 11 (some (.ref 6)) (12+(1+(275+(191+(278+(280+(274+(291+(400+(397+(387+(348+(2))))))))))))) ⟨boot_heap w.params,⟨[]⟩,boot_drawn,boot_toks,os⟩ (topStub Pf)=some ⟨H1 w.params,⟨[]⟩,{},696,os⟩:=
 go_top (pre w os) (piece_block (blk w os) (pc (q0 w os) (pc (q1 w os) (pc (q2 w os) (pc (q3 w os) (pc (q4 w os) (pc (q5 w os) (pc (q6 w os) (pc (q7 w os) (pc (q8 w os) (pc (q9 w os) (fin1 w os))))))))))))
def kp:List Nat:=[1,2,3,4,5,6,7,8,10,11,12,13,14,15,17,18,19,21,22,23,24,25,27,28,29,30,32,33,34,35,36,37,39,40,41,42,43,44,45,46]
def qv (p:Program):Program:={ p with main:={ p.main with body:=kp.filterMap fun i=>p.main.body[i]? } }
noncomputable abbrev QF:Program:=qv Pf
noncomputable def g (a:Nat) (P:Params):Obj:=(l10.getD a boot_o_0) P
noncomputable def KK:Params→Frag:=fun P=>(nat_lit 2,g 2 P)::(nat_lit 3,g 3 P)::(nat_lit 15,g 15 P)::(nat_lit 17,g 17 P)::(nat_lit 18,g 18 P)::(nat_lit 20,g 20 P)::(nat_lit 21,oH z13 z13 (U 1) z23 187 20 P)::(nat_lit 22,g 22 P)::(nat_lit 24,g 24 P)::(nat_lit 25,g 25 P)::(nat_lit 27,g 27 P)::(nat_lit 28,oH z14 z14 (U 2) z23 187 27 P)::(nat_lit 29,g 29 P)::(nat_lit 31,g 31 P)::(nat_lit 32,g 32 P)::(nat_lit 34,g 34 P)::(nat_lit 35,oH z15 z15 (U 3) z23 187 34 P)::(nat_lit 36,g 36 P)::(nat_lit 38,g 38 P)::(nat_lit 39,g 39 P)::(nat_lit 41,g 41 P)::(nat_lit 42,oH z16 z16 (U 4) z23 187 41 P)::(nat_lit 43,g 43 P)::(nat_lit 46,g 46 P)::(nat_lit 47,oH z17 z17 (U 5) z23 187 46 P)::(nat_lit 48,g 48 P)::(nat_lit 51,g 51 P)::(nat_lit 52,oH z18 z18 (U 6) z23 187 51 P)::(nat_lit 53,g 53 P)::(nat_lit 56,g 56 P)::(nat_lit 57,oH z19 z19 (U 7) z23 187 56 P)::(nat_lit 58,g 58 P)::(nat_lit 60,g 60 P)::(nat_lit 61,g 61 P)::(nat_lit 63,g 63 P)::(nat_lit 64,oH z20 z20 (U 8) z23 187 63 P)::(nat_lit 65,g 65 P)::(nat_lit 68,g 68 P)::(nat_lit 69,oH z21 z21 (U 10) z4 249 68 P)::(nat_lit 77,g 77 P)::(nat_lit 78,g 78 P)::(nat_lit 79,Obj.mk (vT y8) none (.cls (ClassData.mk z33 [vT y9] [vR 79,vT y9] 78 z33 true [] [vR 107,vR 133,vR 157,vR 183] false none false)) #[none,none,some (vS z33 257),some (vS z33 265),some (vU y10),some (vB true)])::(nat_lit 80,g 80 P)::(nat_lit 81,g 81 P)::(nat_lit 84,g 84 P)::(nat_lit 91,g 91 P)::(nat_lit 93,g 93 P)::(nat_lit 94,g 94 P)::(nat_lit 96,g 96 P)::(nat_lit 97,oH z41 z45 (M 12 0) z4 249 96 P)::(nat_lit 98,g 98 P)::(nat_lit 100,g 100 P)::(nat_lit 101,g 101 P)::(nat_lit 103,g 103 P)::(nat_lit 104,oH z42 z46 (M 12 1) z4 249 103 P)::(nat_lit 105,g 105 P)::(nat_lit 106,g 106 P)::(nat_lit 107,Obj.mk (vT y8) none (.cls (ClassData.mk z40 [vR 79] [vR 107,vR 79,vT y9] 106 z40 true [] [] false none false)) #[some (vR 84),none,some (vS z40 277),some (vS z40 285),some (vU y10),some (vB true)])::(nat_lit 110,g 110 P)::(nat_lit 117,g 117 P)::(nat_lit 119,g 119 P)::(nat_lit 120,g 120 P)::(nat_lit 122,g 122 P)::(nat_lit 123,oH z41 z49 (M 13 0) z4 249 122 P)::(nat_lit 124,g 124 P)::(nat_lit 126,g 126 P)::(nat_lit 127,g 127 P)::(nat_lit 129,g 129 P)::(nat_lit 130,oH z42 z50 (M 13 1) z4 249 129 P)::(nat_lit 131,g 131 P)::(nat_lit 132,g 132 P)::(nat_lit 133,Obj.mk (vT y8) none (.cls (ClassData.mk z47 [vR 79] [vR 133,vR 79,vT y9] 132 z47 true [] [] false none false)) #[some (vR 110),none,some (vS z47 310),some (vS z47 318),some (vU y10),some (vB true)])::(nat_lit 136,g 136 P)::(nat_lit 143,g 143 P)::(nat_lit 145,g 145 P)::(nat_lit 146,g 146 P)::(nat_lit 148,g 148 P)::(nat_lit 149,oH z41 z52 (M 14 0) z4 249 148 P)::(nat_lit 150,g 150 P)::(nat_lit 153,g 153 P)::(nat_lit 154,oH z42 z53 (M 14 1) z4 249 153 P)::(nat_lit 155,g 155 P)::(nat_lit 156,g 156 P)::(nat_lit 157,Obj.mk (vT y8) none (.cls (ClassData.mk z51 [vR 79] [vR 157,vR 79,vT y9] 156 z51 true [] [] false none false)) #[some (vR 136),none,some (vS z51 345),some (vS z51 353),some (vU y10),some (vB true)])::(nat_lit 160,g 160 P)::(nat_lit 167,g 167 P)::(nat_lit 169,g 169 P)::(nat_lit 170,g 170 P)::(nat_lit 172,g 172 P)::(nat_lit 173,oH z41 z57 (M 15 0) z4 249 172 P)::(nat_lit 174,g 174 P)::(nat_lit 176,g 176 P)::(nat_lit 177,g 177 P)::(nat_lit 179,g 179 P)::(nat_lit 180,oH z42 z58 (M 15 1) z4 249 179 P)::(nat_lit 181,g 181 P)::(nat_lit 182,g 182 P)::(nat_lit 183,Obj.mk (vT y8) none (.cls (ClassData.mk z55 [vR 79] [vR 183,vR 79,vT y9] 182 z55 true [] [] false none false)) #[some (vR 160),none,some (vS z55 376),some (vS z55 384),some (vU y10),some (vB true)])::(nat_lit 186,g 186 P)::(nat_lit 193,g 193 P)::(nat_lit 194,g 194 P)::(nat_lit 195,Obj.mk (vT y8) none (.cls (ClassData.mk z59 [vT y17] [vR 195,vT y17,vT y18,vT y19,vT y9] 194 z59 true [] [vR 208,vR 220] false none false)) #[some (vR 186),none,some (vS z59 415),some (vS z59 423),some (vU y20),some (vB true)])::(nat_lit 196,g 196 P)::(nat_lit 199,g 199 P)::(nat_lit 206,g 206 P)::(nat_lit 207,g 207 P)::(nat_lit 208,Obj.mk (vT y8) none (.cls (ClassData.mk z60 [vR 195] [vR 208,vR 195,vT y17,vT y18,vT y19,vT y9] 207 z60 true [] [] false none false)) #[some (vR 199),none,some (vS z60 433),some (vS z60 441),some (vU y20),some (vB true)])::(nat_lit 211,g 211 P)::(nat_lit 218,g 218 P)::(nat_lit 219,g 219 P)::(nat_lit 220,Obj.mk (vT y8) none (.cls (ClassData.mk z62 [vR 195] [vR 220,vR 195,vT y17,vT y18,vT y19,vT y9] 219 z62 true [] [] false none false)) #[some (vR 211),none,some (vS z62 449),some (vS z62 457),some (vU y20),some (vB true)])::(nat_lit 223,g 223 P)::(nat_lit 225,g 225 P)::(nat_lit 226,g 226 P)::(nat_lit 228,g 228 P)::(nat_lit 229,oH z63 z63 (U 21) z70 465 228 P)::(nat_lit 230,g 230 P)::(nat_lit 233,g 233 P)::(nat_lit 234,oH z64 z64 (U 22) z70 465 233 P)::(nat_lit 235,g 235 P)::(nat_lit 237,g 237 P)::(nat_lit 238,g 238 P)::(nat_lit 240,g 240 P)::(nat_lit 241,oH z65 z65 (U 23) z70 465 240 P)::(nat_lit 242,g 242 P)::(nat_lit 244,g 244 P)::(nat_lit 245,g 245 P)::(nat_lit 247,g 247 P)::(nat_lit 248,oH z66 z66 (U 24) z70 465 247 P)::(nat_lit 249,g 249 P)::(nat_lit 251,g 251 P)::(nat_lit 252,g 252 P)::(nat_lit 254,g 254 P)::(nat_lit 255,oH z67 z67 (U 25) z70 465 254 P)::(nat_lit 256,g 256 P)::(nat_lit 258,g 258 P)::(nat_lit 259,g 259 P)::(nat_lit 261,g 261 P)::(nat_lit 262,oH z77 z77 (U 29) z61 515 261 P)::(nat_lit 270,g 270 P)::(nat_lit 273,g 273 P)::(nat_lit 274,oH z41 z83 (M 30 0) z61 515 273 P)::(nat_lit 275,g 275 P)::(nat_lit 277,g 277 P)::(nat_lit 278,g 278 P)::(nat_lit 280,g 280 P)::(nat_lit 281,oH z82 z84 (M 30 1) z61 515 280 P)::(nat_lit 282,g 282 P)::(nat_lit 283,g 283 P)::(nat_lit 284,Obj.mk (vT y8) none (.cls (ClassData.mk z78 [vT y9] [vR 284,vT y9] 283 z78 true [] [] false none false)) #[none,none,some (vS z78 529),some (vS z78 537),some (vU y10),some (vB true)])::(nat_lit 285,g 285 P)::(nat_lit 286,g 286 P)::(nat_lit 289,g 289 P)::(nat_lit 291,g 291 P)::(nat_lit 292,g 292 P)::(nat_lit 294,g 294 P)::(nat_lit 295,oH z79 z79 (U 32) z75 564 294 P)::(nat_lit 296,g 296 P)::(nat_lit 298,g 298 P)::(nat_lit 299,g 299 P)::(nat_lit 301,g 301 P)::(nat_lit 302,oH z80 z80 (U 33) z75 564 301 P)::(nat_lit 303,g 303 P)::(nat_lit 306,g 306 P)::(nat_lit 307,oH z81 z81 (U 34) z75 564 306 P)::(nat_lit 308,g 308 P)::(nat_lit 310,g 310 P)::(nat_lit 311,g 311 P)::(nat_lit 313,g 313 P)::(nat_lit 314,oH z87 z87 (U 35) z75 564 313 P)::(nat_lit 315,g 315 P)::(nat_lit 318,g 318 P)::(nat_lit 319,oH z88 z88 (U 36) z75 564 318 P)::(nat_lit 320,g 320 P)::(nat_lit 322,g 322 P)::(nat_lit 323,g 323 P)::(nat_lit 325,g 325 P)::(nat_lit 326,oH z89 z89 (U 37) z75 564 325 P)::(nat_lit 327,g 327 P)::(nat_lit 329,g 329 P)::(nat_lit 330,g 330 P)::(nat_lit 332,g 332 P)::(nat_lit 333,oH z90 z90 (U 39) z86 616 332 P)::(nat_lit 334,g 334 P)::(nat_lit 336,g 336 P)::(nat_lit 337,g 337 P)::(nat_lit 339,g 339 P)::(nat_lit 340,oH z91 z91 (U 40) z86 616 339 P)::(nat_lit 341,g 341 P)::(nat_lit 343,g 343 P)::(nat_lit 344,g 344 P)::(nat_lit 346,g 346 P)::(nat_lit 347,oH z92 z92 (U 41) z86 616 346 P)::(nat_lit 353,g 353 P)::(nat_lit 355,g 355 P)::(nat_lit 356,g 356 P)::(nat_lit 358,g 358 P)::(nat_lit 359,oH z94 z94 (U 43) z86 616 358 P)::(nat_lit 360,g 360 P)::(nat_lit 363,g 363 P)::(nat_lit 364,oH z95 z95 (U 44) z86 616 363 P)::(nat_lit 365,g 365 P)::(nat_lit 368,g 368 P)::(nat_lit 369,oH z96 z96 (U 45) z86 616 368 P)::(nat_lit 370,g 370 P)::(nat_lit 372,g 372 P)::(nat_lit 373,g 373 P)::(nat_lit 375,g 375 P)::(nat_lit 376,oH z97 z97 (U 46) z86 616 375 P)::[]
def ads:List Addr:=[nat_lit 2,nat_lit 3,nat_lit 15,nat_lit 17,nat_lit 18,nat_lit 20,nat_lit 21,nat_lit 22,nat_lit 24,nat_lit 25,nat_lit 27,nat_lit 28,nat_lit 29,nat_lit 31,nat_lit 32,nat_lit 34,nat_lit 35,nat_lit 36,nat_lit 38,nat_lit 39,nat_lit 41,nat_lit 42,nat_lit 43,nat_lit 46,nat_lit 47,nat_lit 48,nat_lit 51,nat_lit 52,nat_lit 53,nat_lit 56,nat_lit 57,nat_lit 58,nat_lit 60,nat_lit 61,nat_lit 63,nat_lit 64,nat_lit 65,nat_lit 68,nat_lit 69,nat_lit 77,nat_lit 78,nat_lit 79,nat_lit 80,nat_lit 81,nat_lit 84,nat_lit 91,nat_lit 93,nat_lit 94,nat_lit 96,nat_lit 97,nat_lit 98,nat_lit 100,nat_lit 101,nat_lit 103,nat_lit 104,nat_lit 105,nat_lit 106,nat_lit 107,nat_lit 110,nat_lit 117,nat_lit 119,nat_lit 120,nat_lit 122,nat_lit 123,nat_lit 124,nat_lit 126,nat_lit 127,nat_lit 129,nat_lit 130,nat_lit 131,nat_lit 132,nat_lit 133,nat_lit 136,nat_lit 143,nat_lit 145,nat_lit 146,nat_lit 148,nat_lit 149,nat_lit 150,nat_lit 153,nat_lit 154,nat_lit 155,nat_lit 156,nat_lit 157,nat_lit 160,nat_lit 167,nat_lit 169,nat_lit 170,nat_lit 172,nat_lit 173,nat_lit 174,nat_lit 176,nat_lit 177,nat_lit 179,nat_lit 180,nat_lit 181,nat_lit 182,nat_lit 183,nat_lit 186,nat_lit 193,nat_lit 194,nat_lit 195,nat_lit 196,nat_lit 199,nat_lit 206,nat_lit 207,nat_lit 208,nat_lit 211,nat_lit 218,nat_lit 219,nat_lit 220,nat_lit 223,nat_lit 225,nat_lit 226,nat_lit 228,nat_lit 229,nat_lit 230,nat_lit 233,nat_lit 234,nat_lit 235,nat_lit 237,nat_lit 238,nat_lit 240,nat_lit 241,nat_lit 242,nat_lit 244,nat_lit 245,nat_lit 247,nat_lit 248,nat_lit 249,nat_lit 251,nat_lit 252,nat_lit 254,nat_lit 255,nat_lit 256,nat_lit 258,nat_lit 259,nat_lit 261,nat_lit 262,nat_lit 270,nat_lit 273,nat_lit 274,nat_lit 275,nat_lit 277,nat_lit 278,nat_lit 280,nat_lit 281,nat_lit 282,nat_lit 283,nat_lit 284,nat_lit 285,nat_lit 286,nat_lit 289,nat_lit 291,nat_lit 292,nat_lit 294,nat_lit 295,nat_lit 296,nat_lit 298,nat_lit 299,nat_lit 301,nat_lit 302,nat_lit 303,nat_lit 306,nat_lit 307,nat_lit 308,nat_lit 310,nat_lit 311,nat_lit 313,nat_lit 314,nat_lit 315,nat_lit 318,nat_lit 319,nat_lit 320,nat_lit 322,nat_lit 323,nat_lit 325,nat_lit 326,nat_lit 327,nat_lit 329,nat_lit 330,nat_lit 332,nat_lit 333,nat_lit 334,nat_lit 336,nat_lit 337,nat_lit 339,nat_lit 340,nat_lit 341,nat_lit 343,nat_lit 344,nat_lit 346,nat_lit 347,nat_lit 353,nat_lit 355,nat_lit 356,nat_lit 358,nat_lit 359,nat_lit 360,nat_lit 363,nat_lit 364,nat_lit 365,nat_lit 368,nat_lit 369,nat_lit 370,nat_lit 372,nat_lit 373,nat_lit 375,nat_lit 376]
theorem adsE:∀ P,ads=(KK P).map (·.1):=fun P=>by kernel_rfl
noncomputable abbrev Hk:Hook:=kHook KK ads adsE
theorem k1 (w:World) (os:OsState):(staticsOk (importedModules Pf.main.body) (boot_heap w.params) (H1 w.params)&&namesBound Pf (H1 w.params)&&gensDone ⟨H1 w.params,⟨[]⟩,{},696,os⟩&&laidKept (boot_heap w.params) (H1 w.params))=true:=by
 rw [Fast.te5923862056798008813];kernel_rfl
theorem k2 (w:World) (os:OsState):openSeen QF [] (importedModules Pf.main.body) (fun s=>xlAt QF [] s&&recOk (RowW.records PySem.Challenge.rw_earworks_k04_whole_numbered.row.toRowW) s) true ⟨H1 w.params,⟨[]⟩,{},696,os⟩=openGood QF []:=by
 unfold openSeen openGood
 refine looks_pair ?_ (looks_pair ?_ (looks_pair ?_ (looks_pair ?_ (looks_pair ?_ (looks_pair ?_ (looks_pair ?_ (looks_pair ?_ ?_)))))))
 ·
  rw [Fast.te5160383126252970620,Fast.te3399658132070893891,Fast.te5991557255702980513,PySem.W.R.mapR_eq];kernel_rfl
 ·
  kernel_rfl
 ·
  rw [Fast.te10880121769531294198,Fast.te821141287760084731,Fast.te3399658132070893891,Fast.te7409074990110511671,Fast.te13664370479719496447,PySem.W.R.mapR_eq,Fast.te14722251495701143533,Fast.te5923862056798008813,Fast.te10994771534591457954];kernel_rfl
 ·
  rw [Fast.te479339242167458305];kernel_rfl
 ·
  rw [Fast.te16090120013241838585,Fast.te3247288618530077131];kernel_rfl
 ·
  rw [Fast.te2386780881361962483,Fast.te821141287760084731];kernel_rfl
 ·
  rw [Fast.te11698064438423848299];kernel_rfl
 ·
  rw [Fast.te7317090234206586261];kernel_rfl
 ·
  rw [Fast.te7369524293546568484];kernel_rfl
theorem k3 (w:World) (os:OsState):Hk.obs ⟨H1 w.params,⟨[]⟩,{},696,os⟩=Hk.val w:=by kernel_rfl
theorem sz (w:World):((boot_heap w.params).isNs mainGlobals&&(⟨[]⟩ : Array GenState).size==0,(boot_heap w.params).objs.size,(boot_heap w.params).nsMap mainGlobals "__annotations__")=(true,11,some (.ref 6)):=by
 rw [Fast.te8920871248978507458,show ("__annotations__" : Str)=⟨⟨[95,95,97,110,110,111,116,97,116,105,111,110,115,95,95]⟩⟩ from Fast.ofString_ofList ['_','_','a','n','n','o','t','a','t','i','o','n','s','_','_']];kernel_rfl
theorem leftF:LeftO Pf QF [] (fun s=>xlAt QF [] s&&recOk (RowW.records PySem.Challenge.rw_earworks_k04_whole_numbered.row.toRowW) s) (Hook.obs Hk) (Hook.val Hk) 6348:=
 LeftO.of_pieces (boot_open (by kernel_rfl) (by decide) (fun s=>by kernel_rfl)) sz run (by decide) fun w=>funext fun os=>looks_pair (k1 w os) (looks_pair (k2 w os) (k3 w os))
theorem ePf:PySem.Challenge.rw_earworks_k04_whole_numbered.row.prog=Pf:=by
 show (PySem.Challenge.rw_earworks_k04_whole_numbered.row).toRowW.1=_
 rw [Fast.te2368527892694137696,Fast.te2224847102197200888]
theorem te (i:Nat):Pg.top i=U i:=by
 show (PySem.Challenge.rw_earworks_k04_whole_numbered.row.prog).main.body.getD i _=_
 rw [ePf];rfl
theorem te2 (i j:Nat):inClass (Pg.top i) j=M i j:=by
 unfold M;rw [te i]
end Hx
end
set_option Elab.async false
set_option linter.all false
set_option maxRecDepth 100000
set_option maxHeartbeats 0
theorem Ew.na_mk {K:PySem.W.Frag} {C:PySem.Addr} {f:PySem.Str} (h:PySem.W.findIn K (.ref C) f=some none):L2.NoAttr K C f:=h
theorem Ew.cn_mk {K:PySem.W.Frag} {mg:PySem.Str→Option PySem.Value} {h:PySem.Heap} (KX:K.In h) (G:h.Ns PySem.mainGlobals mg) {x:PySem.Str} {z:Int} {t:PySem.Tok} (e:PySem.W.nsIn K PySem.mainGlobals x=some (some (.int z t))):∃ t,mg x=some (.int z t):=⟨t,PySem.W.mg_of KX G e⟩
open PySem PySem.W PyProof.Rows
theorem PySem.Challenge.cw_earworks_k04_whole_numbered_holds : PySem.Challenge.rw_earworks_k04_whole_numbered.Holds := by
 w_on;o_law
 refine holds_open (q:=(Hx.qv PySem.Challenge.rw_earworks_k04_whole_numbered.row.prog)) (loose:=[]) (Xt:=(fun s=>xlAt (Hx.qv PySem.Challenge.rw_earworks_k04_whole_numbered.row.prog) [] s&&recOk (RowW.records PySem.Challenge.rw_earworks_k04_whole_numbered.row.toRowW) s)) (XP:=XL (Hx.qv PySem.Challenge.rw_earworks_k04_whole_numbered.row.prog) []) (Yf:=Hook.obs (kHook Hx.KK Hx.ads Hx.adsE)) (Ya:=Hook.val (kHook Hx.KK Hx.ads Hx.adsE)) (YP:=Hook.says (kHook Hx.KK Hx.ads Hx.adsE)) (N:=6348) ?hl (Hook.of _) (Hook.keeps _) (fun s e=>xl_of s (Bool.and_eq_true_iff.mp e).1) XL.keeps (by rfl) (by rfl) (by rfl) (fun s e=>recFacts_of (Bool.and_eq_true_iff.mp e).2) (by rfl) (by first | assumption | decide +kernel) (by decide +kernel) ⟨rfl,rfl,rfl,rfl,rfl,by decide +kernel⟩ ?hw ?hc
 case hl=>rw [Hx.ePf];exact Hx.leftF
 case hw=>w_witness2
 k_fill
 refine L2.walk_ofK (l:=PySem.Challenge.rw_earworks_k04_whole_numbered) (n:=63) (k:=6) (x:="_law_script") (CX:=L2.CX0) (sp:=Ew.spLaw) rfl (by decide) rfl ⟨rfl,by decide,by decide⟩ (fun w h Y=>PySem.W.kIn_of Y) ?F ?S ?C
 case F=>
  intro w mg fa h KX G hmg
  have T:∃ c,Nonempty (Pg.Txt (L2.KOf KX) mg c):=by
   dsimp only [L2.KOf]
   refine' Pg.Txt.go (Pg.Txt.mk (Ew.cd_mk KX G ?_ ?_ ?_ ?_ ?_) (Ew.cd_mk KX G ?_ ?_ ?_ ?_ ?_) (Ew.cd_mk KX G ?_ ?_ ?_ ?_ ?_) (Ew.cd_mk KX G ?_ ?_ ?_ ?_ ?_) (Ew.cd_mk KX G ?_ ?_ ?_ ?_ ?_) (Ew.cd_mk KX G ?_ ?_ ?_ ?_ ?_) (Ew.na_mk ?_) (Ew.na_mk ?_) (Ew.na_mk ?_) (Ew.na_mk ?_) (Ew.na_mk ?_) (PySem.W.mg_none_of KX G ?_) (PySem.W.mg_none_of KX G ?_) (PySem.W.mg_none_of KX G ?_) (PySem.W.mg_none_of KX G ?_) (PySem.W.mg_none_of KX G ?_) (PySem.W.mg_none_of KX G ?_) (PySem.W.mg_none_of KX G ?_) (PySem.W.mg_none_of KX G ?_) (PySem.W.mg_none_of KX G ?_) (PySem.W.mg_none_of KX G ?_) (PySem.W.mg_none_of KX G ?_) (PySem.W.mg_none_of KX G ?_) (PySem.W.mg_none_of KX G ?_) (PySem.W.mg_none_of KX G ?_) (PySem.W.mg_none_of KX G ?_) (Ew.cn_mk KX G ?_) (Ew.cn_mk KX G ?_) (Ew.ob_mk (L2.Cls.mk ?_ ?_ ?_ ?_) ?_ ?_ ?_ ?_) (Ew.ob_mk (L2.Cls.mk ?_ ?_ ?_ ?_) ?_ ?_ ?_ ?_) (Ew.ob_mk (L2.Cls.mk ?_ ?_ ?_ ?_) ?_ ?_ ?_ ?_) (Ew.kit_sub ?_ ?_ ?_ ?_) (Ew.kit_sub ?_ ?_ ?_ ?_) (Ew.kit_sub ?_ ?_ ?_ ?_) (Ew.kit_sub ?_ ?_ ?_ ?_) (Ew.kit_sub ?_ ?_ ?_ ?_) (Ew.kit_sub ?_ ?_ ?_ ?_) (Ew.kit_sub ?_ ?_ ?_ ?_) (Ew.kit_sub ?_ ?_ ?_ ?_) (Ew.kit_sub ?_ ?_ ?_ ?_) (Ew.kit_sub ?_ ?_ ?_ ?_) (Ew.kit_sub ?_ ?_ ?_ ?_) (Ew.kit_sub ?_ ?_ ?_ ?_) (Ew.kit_sub ?_ ?_ ?_ ?_) (Ew.kit_sub ?_ ?_ ?_ ?_) (Ew.kit_sub ?_ ?_ ?_ ?_) ⟨?_,?_,?_⟩ (Ew.Fd.of KX G (Ew.fx2 (Hx.te _) ?_ ?_ ?_ ?_)) (Ew.Fd.of KX G (Ew.fx2 (Hx.te _) ?_ ?_ ?_ ?_)) (Ew.Fd.of KX G (Ew.fx2 (Hx.te _) ?_ ?_ ?_ ?_)) (Ew.Fd.of KX G (Ew.fx2 (Hx.te _) ?_ ?_ ?_ ?_)) (Ew.Fd.of KX G (Ew.fx2 (Hx.te _) ?_ ?_ ?_ ?_)) (Ew.Md.of (Ew.fm2 (Hx.te2 _ _) ?_ ?_ ?_ ?_ ?_)) (Ew.Fd.of KX G (Ew.fx2 (Hx.te _) ?_ ?_ ?_ ?_)) (Ew.Fd.of KX G (Ew.fx2 (Hx.te _) ?_ ?_ ?_ ?_)) (Ew.Fd.of KX G (Ew.fx2 (Hx.te _) ?_ ?_ ?_ ?_)) (Ew.Fd.of KX G (Ew.fx2 (Hx.te _) ?_ ?_ ?_ ?_)) (Ew.Ni.of (Ew.fm2 (Hx.te2 _ _) ?_ ?_ ?_ ?_ ?_) ?_ ?_) (Ew.Md.of (Ew.fm2 (Hx.te2 _ _) ?_ ?_ ?_ ?_ ?_)) (Ew.Ni.of (Ew.fm2 (Hx.te2 _ _) ?_ ?_ ?_ ?_ ?_) ?_ ?_) (Ew.Md.of (Ew.fm2 (Hx.te2 _ _) ?_ ?_ ?_ ?_ ?_)) (Ew.Fd.of KX G (Ew.fx2 (Hx.te _) ?_ ?_ ?_ ?_)) (Ew.Fd.of KX G (Ew.fx2 (Hx.te _) ?_ ?_ ?_ ?_)) (Ew.Fd.of KX G (Ew.fx2 (Hx.te _) ?_ ?_ ?_ ?_)) (Ew.Fd.of KX G (Ew.fx2 (Hx.te _) ?_ ?_ ?_ ?_)) (Ew.Fd.of KX G (Ew.fx2 (Hx.te _) ?_ ?_ ?_ ?_)) (Ew.Fd.of KX G (Ew.fx2 (Hx.te _) ?_ ?_ ?_ ?_)) (Ew.Ni.of (Ew.fm2 (Hx.te2 _ _) ?_ ?_ ?_ ?_ ?_) ?_ ?_) (Ew.Fd.of KX G (Ew.fx2 (Hx.te _) ?_ ?_ ?_ ?_)) (Ew.Fd.of KX G (Ew.fx2 (Hx.te _) ?_ ?_ ?_ ?_)) (Ew.Fd.of KX G (Ew.fx2 (Hx.te _) ?_ ?_ ?_ ?_)) (Ew.Fd.of KX G (Ew.fx2 (Hx.te _) ?_ ?_ ?_ ?_)) (Ew.Fd.of KX G (Ew.fx2 (Hx.te _) ?_ ?_ ?_ ?_)) (Ew.Fd.of KX G (Ew.fx2 (Hx.te _) ?_ ?_ ?_ ?_)) (Ew.Fd.of KX G (Ew.fx2 (Hx.te _) ?_ ?_ ?_ ?_)) (Ew.Fd.of KX G (Ew.fx2 (Hx.te _) ?_ ?_ ?_ ?_)) (Ew.Fd.of KX G (Ew.fx2 (Hx.te _) ?_ ?_ ?_ ?_)) (Ew.Fd.of KX G (Ew.fx2 (Hx.te _) ?_ ?_ ?_ ?_)) (Ew.Fd.of KX G (Ew.fx2 (Hx.te _) ?_ ?_ ?_ ?_)) (Ew.Fd.of KX G (Ew.fx2 (Hx.te _) ?_ ?_ ?_ ?_)) (Ew.Fl'.of KX G (Ew.fxl2 (Hx.te _) ?_ ?_ ?_ ?_)))
   all_goals ((try dsimp only);try k_is)
   all_goals decide
  obtain ⟨c,⟨T⟩⟩:=T
  have e0:=hmg.symm.trans T.law.mgx
  have e1:fa=T.law.f:=by cases e0;rfl
  rw [e1]
  exact ⟨T.law.fd,T.law.bl,fun base kb nb=>(Pg.ok_law T).imp (Ew.spLaw_imp (Pg.law_true c T.ne _))⟩
 case S=>exact fun K H a ns hl hO hS=>⟨a,ns,rfl,hl,hS,fun _ _=>rfl⟩
 case C=>exact fun H s e s' h=>h
