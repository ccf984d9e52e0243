import PyProof.Rows.All
import Wide.All
import OpenK.AllK
import Wide.FinOn
import Lean
import PyProof.EqAt
import PyProof.EqKinds
import PyProof.TupleCall
import PySem.Challenge.RW_earworks_k06_whole_ties_apart
section
set_option Elab.async false
set_option linter.all false
set_option maxRecDepth 100000
namespace L2
open PySem PySem.Spec PyProof.Rows
abbrev Key:=Sum Int Str
def keyIs:Key→Value→Bool
 | .inl k,v=>Value.isInt k v
 | .inr x,v=>Value.isStrOf x v
def keyH (w:World):Key→Int
 | .inl k=>hashInt k
 | .inr x=>hashStr w x
theorem bI:∀ {k:Key} {v:Value},keyIs k v=true→(∃ i t,k=Sum.inl i∧v=Value.int i t)∨(∃ x t,k=Sum.inr x∧v=Value.str x t)
 | .inl i,v,h=>by
  obtain ⟨t,e⟩:=Value.isInt_shape (k:=i) (v:=v) h
  exact .inl ⟨i,t,rfl,e⟩
 | .inr x,v,h=>by
  obtain ⟨t,e⟩:=Value.isStrOf_shape (x:=x) (v:=v) h
  exact .inr ⟨x,t,rfl,e⟩
theorem key_ll (a b:Int):decide ((Sum.inl a:Key)=Sum.inl b)=(a==b):=by
 by_cases e:a=b
 ·
  subst e;simp
 ·
  have h:¬(Sum.inl a:Key)=Sum.inl b:=fun q=>e (Sum.inl.inj q)
  rw [decide_eq_false h]
  exact (beq_eq_false_iff_ne.mpr e).symm
theorem key_rr (a b:Str):decide ((Sum.inr a:Key)=Sum.inr b)=decide (a=b):=by
 by_cases e:a=b
 ·
  subst e;simp
 ·
  have h:¬(Sum.inr a:Key)=Sum.inr b:=fun q=>e (Sum.inr.inj q)
  rw [decide_eq_false h,decide_eq_false e]
theorem key_lr (a:Int) (b:Str):decide ((Sum.inl a:Key)=Sum.inr b)=false:=decide_eq_false (fun q=>nomatch q)
theorem key_rl (a:Str) (b:Int):decide ((Sum.inr a:Key)=Sum.inl b)=false:=decide_eq_false (fun q=>nomatch q)
def mixKind (prog:Program) (w:World):PySem.KeyKind prog w Key where
 is:=keyIs
 hash:=keyH w
 inj:=fun v a b ha hb=>by
  rcases bI ha with ⟨i,t,rfl,rfl⟩ | ⟨x,t,rfl,rfl⟩
  ·
   rcases bI hb with ⟨j,u,rfl,e⟩ | ⟨y,u,rfl,e⟩
   ·
    injection e with e1 _;rw [e1]
   ·
    exact nomatch e
  ·
   rcases bI hb with ⟨j,u,rfl,e⟩ | ⟨y,u,rfl,e⟩
   ·
    exact nomatch e
   ·
    injection e with e1 _;rw [e1]
 byValue:=fun k v h=>by
  rcases bI h with ⟨i,t,rfl,rfl⟩ | ⟨x,t,rfl,rfl⟩ <;> rfl
 pyHash:=fun hv h=>by
  rcases bI hv with ⟨i,t,rfl,rfl⟩ | ⟨x,t,rfl,rfl⟩
  ·
   exact wpAny_pyHash_int h
  ·
   exact wpAny_pyHash_str h
 eqBool:=fun hu hv h=>by
  rcases bI hu with ⟨i,t,rfl,rfl⟩ | ⟨x,t,rfl,rfl⟩
  ·
   rcases bI hv with ⟨j,u,rfl,rfl⟩ | ⟨y,u,rfl,rfl⟩
   ·
    rw [key_ll] at h;exact wpAny_eqBool_int h
   ·
    rw [key_lr] at h;exact SeqAt.EqAt.int_str i t y u _ _ _ _ h
  ·
   rcases bI hv with ⟨j,u,rfl,rfl⟩ | ⟨y,u,rfl,rfl⟩
   ·
    rw [key_rl] at h;exact SeqAt.EqAt.str_int x t j u _ _ _ _ h
   ·
    rw [key_rr] at h;exact wpAny_eqBool_str h
 «strs»:=fun k x t v h=>by
  rcases bI h with ⟨i,u,rfl,e⟩ | ⟨y,u,rfl,e⟩
  ·
   exact nomatch e
  ·
   injection e with e1 _
   subst e1
   cases v <;> rfl
end L2
namespace L2
open PySem PySem.Spec PyProof.Rows
inductive V where
 | non | bl (b:Bool) | int (i:Int) | str (x:Str) | byt (b:Array UInt8) | flt (b:UInt64) | ref (a:Addr) | ty (n:String)
 deriving DecidableEq
def RelV:V→Value→Prop
 | .non,u=>u=Value.none
 | .bl b,u=>u=Value.bool b
 | .int i,u=>∃ t,u=Value.int i t
 | .str x,u=>∃ t,u=Value.str x t
 | .byt b,u=>∃ t,u=Value.bytes b t
 | .flt b,u=>∃ t,u=Value.float b t
 | .ref a,u=>u=Value.ref a
 | .ty n,u=>u=Value.type n
abbrev aQ:List V→List Value→Prop:=Paired RelV
theorem aQ.length {xs:List V} {us:List Value} (r:aQ xs us):xs.length=us.length:=Paired.length r
theorem aQ.get:∀ {xs:List V} {us:List Value} {i:Nat} {x:V},aQ xs us→xs[i]?=some x→∃ u,us[i]?=some u∧RelV x u
 | _,_,_,_,.nil,e=>by simp at e
 | _,_,0,_,.cons r _,e=>by simp at e;subst e;exact ⟨_,rfl,r⟩
 | _,_,i+1,x,.cons _ t,e=>by
  obtain ⟨u,h1,h2⟩:=aQ.get (i:=i) (x:=x) t (by simpa using e)
  exact ⟨u,by simpa using h1,h2⟩
theorem aQ.append:∀ {xs ys:List V} {us ws:List Value},aQ xs us→aQ ys ws→aQ (xs++ys) (us++ws)
 | _,_,_,_,.nil,s=>s
 | _,_,_,_,.cons r t,s=>.cons r (aQ.append t s)
theorem aQ.take:∀ {xs:List V} {us:List Value} (n:Nat),aQ xs us→aQ (xs.take n) (us.take n)
 | _,_,0,_=>.nil
 | _,_,_+1,.nil=>.nil
 | _,_,n+1,.cons r t=>.cons r (aQ.take n t)
theorem aQ.drop:∀ {xs:List V} {us:List Value} (n:Nat),aQ xs us→aQ (xs.drop n) (us.drop n)
 | _,_,0,r=>r
 | _,_,_+1,.nil=>.nil
 | _,_,n+1,.cons _ t=>aQ.drop n t
def RelO:Option V→Option Value→Prop
 | some v,some u=>RelV v u
 | none,none=>True
 | _,_=>False
def KV {κ:Type}:List (κ×V)→List (κ×Value)→Prop:=Paired fun (p:κ×V) (q:κ×Value)=>p.1=q.1∧RelV p.2 q.2
def kV:Key→V
 | .inl i=>.int i
 | .inr x=>.str x
inductive HO where
 | lst (xs:List V)
 | tup (xs:List V)
 | dK (kvs:List (Key×V)) | dT (kvs:List (List Key×V))
 | set (S:Int→Bool) (n:Nat)
 | ins (C dx:Addr) (fs:List (Str×V))
 | own (x:Addr)
 | xd (fs:List (Str×V))
 | met (f x:Addr)
 | rng (lo hi:Int)
 | frz (o:Obj) (u:HO)
 | tbl (ps:Array Value)
 | ext (φ:Heap→Prop)
abbrev Hp:=Addr→Option HO
def upd (H:Hp) (a:Addr) (o:HO):Hp:=fun b=>if b=a then some o else H b
theorem aF {H:Hp} {a:Addr} {o:HO}:upd H a o a=some o:=by unfold upd;rw [if_pos rfl]
theorem aH {H:Hp} {a b:Addr} {o:HO} (h:b≠a):upd H a o b=H b:=by unfold upd;rw [if_neg h]
theorem aR {H:Hp} {a b:Addr} {o:HO} (h:H a=some o) (h':H b=none):a≠b:=by
 intro e;subst e;rw [h] at h';cases h'
section
variable (P:Program) (w:World)
def cB (H:Hp) (h:Heap) (a:Addr):HO→Prop
 | .lst xs=>xs.length≤sizeLine∧∃ (its:List Value) (n:Nat),aQ xs its∧h.get? a=some { cls:=.type "list",data:=.seq its.toArray n }
 | .tup xs=>xs.length≤sizeLine∧∃ its:List Value,aQ xs its∧IsTup h a its.toArray
 | .dK kvs=>kvs.length≤sizeLine∧(a==sysModules)=false∧∃ vs,KV kvs vs∧h.DictOf (mixKind P w) a vs
 | .dT kvs=>kvs.length≤sizeLine∧(a==sysModules)=false∧∃ xs:List (List Key×Addr×Value),
  Paired (fun (p:List Key×V) (q:List Key×Addr×Value)=>p.1=q.1∧H q.2.1=some (.tup (p.1.map kV))∧RelV p.2 q.2.2) kvs xs∧
  ∃ o es ep,h.get? a=some o∧o.ExactDict∧o.data=.dict es ep∧es.toList=xs.map (entryOfKey (tupleKind (mixKind P w)))∧(xs.map (·.1)).Nodup
 | .set S n=>h.SetOf (intKind P w) a S n
 | .ins C dx fs=>H dx=some (.own a)∧fs.length≤1000∧dx≠a∧h.get? a=some (PySem.W.instObj C dx)∧
  ∃ mA,h.Ns1 dx mA∧(∀ f,RelO (fs.lookup f) (mA f))∧PySem.Within mA (fs.map (·.1))
 | .own _=>∃ o,h.get? a=some o
 | .xd fs=>∃ mA,h.Ns1 a mA∧∀ f,RelO (fs.lookup f) (mA f)
 | .rng lo hi=>∃ t u v,h.get? a=some { cls:=.type "range",data:=.fields #[.int lo t,.int hi u,.int 1 v] }
 | .frz o u=>h.get? a=some o∧cB H h a u
 | .tbl ps=>h.get? a=some { cls:=.none,data:=.fields ps }
 | .met f x=>h.get? a=some (PySem.W.methodObj (.ref f) (.ref x))
 | .ext φ=>φ h∧(∃ o,h.get? a=some o)∧∀ h1 h2:Heap,φ h1→(∀ o,h1.get? a=some o→h2.get? a=some o)→φ h2
def HOk (H:Hp) (h:Heap):Prop:=∀ a o,H a=some o→cB P w H h a o
end
section
variable {P:Program} {w:World} {H H':Hp} {h h':Heap} {a:Addr} {o:HO}
theorem cB.lt (x:cB P w H h a o):a<h.objs.size:=by
 cases o with
 | lst xs=>obtain ⟨_,_,_,_,e⟩:=x;exact Heap.lt_size e
 | tup xs=>obtain ⟨_,_,_,p⟩:=x;exact p.lt
 | dK kvs=>obtain ⟨_,_,_,_,o,_,_,e,_⟩:=x;exact Heap.lt_size e
 | dT kvs=>obtain ⟨_,_,_,_,o,_,_,e,_⟩:=x;exact Heap.lt_size e
 | set S n=>obtain ⟨o,_,_,_,e,_⟩:=x;exact Heap.lt_size e
 | ins C dx fs=>obtain ⟨_,_,_,e,_⟩:=x;exact Heap.lt_size e
 | own y=>obtain ⟨_,e⟩:=x;exact Heap.lt_size e
 | xd fs=>obtain ⟨_,⟨_,_,_,e,_⟩,_⟩:=x;exact Heap.lt_size e
 | rng lo hi=>obtain ⟨_,_,_,e⟩:=x;exact Heap.lt_size e
 | frz ob u=>obtain ⟨e,_⟩:=x;exact Heap.lt_size e
 | tbl ps=>exact Heap.lt_size (show h.get? a=some _ from x)
 | met f y=>exact Heap.lt_size (show h.get? a=some _ from x)
 | ext φ=>obtain ⟨_,⟨_,e⟩,_⟩:=x;exact Heap.lt_size e
theorem Paired.mapP {α β:Type} {F G:α→β→Prop}:∀ {l₁:List α} {l₂:List β},Paired F l₁ l₂→(∀ a b,F a b→G a b)→Paired G l₁ l₂
 | _,_,.nil,_=>.nil
 | _,_,.cons r t,f=>.cons (f _ _ r) (Paired.mapP t f)
theorem cB.stay (x:cB P w H h a o) (k:∀ b u,(b=a∨H b=some (.own a))→h.get? b=some u→h'.get? b=some u)
  (ho:∀ b,H b=some (.own a)→H' b=some (.own a)) (ht:∀ b xs,H b=some (.tup xs)→H' b=some (.tup xs)):cB P w H' h' a o:=by
 induction o with
 | lst xs=>obtain ⟨z,its,n,r,e⟩:=x;exact ⟨z,its,n,r,k _ _ (.inl rfl) e⟩
 | tup xs=>obtain ⟨z,its,r,ob,e,c⟩:=x;exact ⟨z,its,r,ob,k _ _ (.inl rfl) e,c⟩
 | dK kvs=>obtain ⟨z,y,vs,r,ob,es,ep,e,c⟩:=x;exact ⟨z,y,vs,r,ob,es,ep,k _ _ (.inl rfl) e,c⟩
 | dT kvs=>
  obtain ⟨z,y,xs,r,ob,es,ep,e,c⟩:=x
  exact ⟨z,y,xs,Paired.mapP r fun p q z=>⟨z.1,ht _ _ z.2.1,z.2.2⟩,ob,es,ep,k _ _ (.inl rfl) e,c⟩
 | set S n=>obtain ⟨ob,es,ep,t,e,c⟩:=x;exact ⟨ob,es,ep,t,k _ _ (.inl rfl) e,c⟩
 | ins C dx fs=>
  obtain ⟨d,z,ne,e,mA,⟨od,es,ep,e2,c⟩,r⟩:=x
  exact ⟨ho _ d,z,ne,k _ _ (.inl rfl) e,mA,⟨od,es,ep,k _ _ (.inr d) e2,c⟩,r⟩
 | own y=>obtain ⟨ob,e⟩:=x;exact ⟨ob,k _ _ (.inl rfl) e⟩
 | xd fs=>obtain ⟨mA,⟨od,es,ep,e,c⟩,r⟩:=x;exact ⟨mA,⟨od,es,ep,k _ _ (.inl rfl) e,c⟩,r⟩
 | rng lo hi=>obtain ⟨t,u,v,e⟩:=x;exact ⟨t,u,v,k _ _ (.inl rfl) e⟩
 | frz ob u ih=>obtain ⟨e,q⟩:=x;exact ⟨k _ _ (.inl rfl) e,ih q⟩
 | tbl ps=>
  have e:h.get? a=some { cls:=.none,data:=.fields ps }:=x
  show h'.get? a=some { cls:=.none,data:=.fields ps }
  exact k a _ (.inl rfl) e
 | met f y=>
  have e:h.get? a=some (PySem.W.methodObj (.ref f) (.ref y)):=x
  show h'.get? a=some (PySem.W.methodObj (.ref f) (.ref y))
  exact k a _ (.inl rfl) e
 | ext φ=>obtain ⟨p,⟨o,e⟩,st⟩:=x;exact ⟨st _ _ p fun o q=>k _ _ (.inl rfl) q,⟨o,k _ _ (.inl rfl) e⟩,st⟩
theorem HOk.lt (x:HOk P w H h) (e:H a=some o):a<h.objs.size:=(x a o e).lt
theorem HOk.fresh (x:HOk P w H h) (e:h.objs.size≤a):H a=none:=by
 cases q:H a with
 | none=>rfl
 | some u=>exact absurd (Nat.lt_of_lt_of_le (x.lt q) e) (Nat.lt_irrefl _)
theorem HOk.kept (x:HOk P w H h) (k:∀ b u,h.get? b=some u→h'.get? b=some u):HOk P w H h':=fun a o e=>
 (x a o e).stay (fun b u _ q=>k b u q) (fun _ q=>q) fun _ _ q=>q
theorem HOk.laid (x:HOk P w H h) (k:∀ b u,h.get? b=some u→h'.get? b=some u) (hp:h.objs.size≤a) (new:cB P w (upd H a o) h' a o):HOk P w (upd H a o) h':=fun b u e=>by
 have hn:=x.fresh hp
 by_cases hb:b=a
 ·
  subst hb;rw [aF] at e;cases e;exact new
 ·
  rw [aH hb] at e
  exact (x b u e).stay (fun c v _ q=>k c v q) (fun c q=>by rw [aH (aR q hn)];exact q) fun c xs q=>by rw [aH (aR q hn)];exact q
end
def Rd (H:Hp) (a:Addr) (u:HO):Prop:=H a=some u∨∃ o,H a=some (.frz o u)
theorem Rd.ok {P:Program} {w:World} {H:Hp} {h:Heap} {a:Addr} {u:HO} (r:Rd H a u) (x:HOk P w H h):cB P w H h a u:=by
 rcases r with r | ⟨o,r⟩
 ·
  exact x a u r
 ·
  obtain ⟨_,q⟩:=x a _ r
  exact q
def Mut:Option HO→Prop
 | some (.lst _)=>True
 | some (.dK _)=>True
 | some (.dT _)=>True
 | some (.set _ _)=>True
 | some (.ins _ _ _)=>True
 | some (.ext _)=>True
 | _=>False
section
variable {P:Program} {w:World} {H:Hp} {h h':Heap} {x e:Addr} {o':HO}
theorem HOk.write (ok:HOk P w H h) (mu:Mut (H x)) (he:e=x∨H e=some (.own x)) (k:∀ b u,b≠e→h.get? b=some u→h'.get? b=some u) (heo:∃ u,h'.get? e=some u)
  (new:cB P w (upd H x o') h' x o'):HOk P w (upd H x o') h':=fun b u q=>by
 have nown:∀ c y,H c=some (.own y)→c≠x:=fun c y r z=>by subst z;rw [r] at mu;exact mu
 have ntup:∀ c xs,H c=some (.tup xs)→c≠x:=fun c xs r z=>by subst z;rw [r] at mu;exact mu
 by_cases hb:b=x
 ·
  subst hb;rw [aF] at q;cases q;exact new
 ·
  rw [aH hb] at q
  by_cases hbe:b=e
  ·
   have q':H b=some (.own x):=by
    rcases he with z | z
    ·
     exact absurd (hbe.trans z) hb
    ·
     rw [hbe];exact z
   rw [q] at q';cases q'
   obtain ⟨v,hv⟩:=heo
   exact ⟨v,by rw [hbe];exact hv⟩
  ·
   refine (ok b u q).stay (fun c v hc r=>k c v ?_ r) (fun c r=>by rw [aH (nown c b r)];exact r) fun c xs r=>by rw [aH (ntup c xs r)];exact r
   rcases hc with rfl | hc
   ·
    exact hbe
   ·
    rintro rfl
    rcases he with z | z
    ·
     exact nown c b hc z
    ·
     rw [hc] at z;cases z;exact hb rfl
end
structure Un (fs ex:List Addr) (H H':Hp) (h h':Heap):Prop where
 keep:∀ b o,h.get? b=some o→H b=none→b∉fs→b∉ex→h'.get? b=some o
 slot:∀ b o,h.get? b=some o→H b=none→b∈fs→b∉ex→∃ sl,h'.get? b=some { o with slots:=sl }
 free:∀ b o,h.get? b=some o→H b=none→b∉ex→H' b=none
 there:∀ b o,h.get? b=some o→b∉ex→∃ o',h'.get? b=some o'
 tups:∀ b xs,H b=some (.tup xs)→H' b=some (.tup xs)
 frzs:∀ b o u,H b=some (.frz o u)→H' b=some (.frz o u)
 tbls:∀ b ps,H b=some (.tbl ps)→∃ more,H' b=some (.tbl (ps++more))
section
variable {fs fs' ex ex':List Addr} {H H1 H2:Hp} {h h1 h2 h':Heap} {a x e:Addr} {o:HO}
theorem Un.any (u:Un fs ex H H1 h h1) {b:Addr} {ob:Obj} (q:h.get? b=some ob) (n:H b=none) (hx:b∉ex):∃ sl,h1.get? b=some { ob with slots:=sl }:=by
 by_cases hb:b∈fs
 ·
  exact u.slot b ob q n hb hx
 ·
  exact ⟨ob.slots,u.keep b ob q n hb hx⟩
theorem Un.kept (k:∀ b u,h.get? b=some u→h'.get? b=some u):Un fs ex H H h h':=
 ⟨fun b ob q _ _ _=>k b ob q,fun b ob q _ _ _=>⟨ob.slots,k b ob q⟩,fun _ _ _ n _=>n,fun b ob q _=>⟨ob,k b ob q⟩,fun _ _ q=>q,fun _ _ _ q=>q,fun _ ps q=>⟨#[],by rw [q];simp⟩⟩
theorem Un.refl:Un fs ex H H h h:=Un.kept fun _ _ q=>q
theorem Un.laid (k:∀ b u,h.get? b=some u→h'.get? b=some u) (hp:h.objs.size≤a) (hn:H a=none):Un fs ex H (upd H a o) h h' where
 keep:=fun b u q _ _ _=>k b u q
 slot:=fun b u q _ _ _=>⟨u.slots,k b u q⟩
 free:=fun b u q n _=>by rw [aH (Nat.ne_of_lt (Nat.lt_of_lt_of_le (Heap.lt_size q) hp))];exact n
 there:=fun b u q _=>⟨u,k b u q⟩
 tups:=fun b xs q=>by rw [aH (aR q hn)];exact q
 frzs:=fun b u xs q=>by rw [aH (aR q hn)];exact q
 tbls:=fun b ps q=>⟨#[],by rw [aH (aR q hn),q];simp⟩
theorem Un.write (mu:Mut (H x)) (he:e=x∨H e=some (.own x)) (k:∀ b u,b≠e→h.get? b=some u→h'.get? b=some u) (heo:∃ u,h'.get? e=some u):Un fs ex H (upd H x o) h h':=by
 have hx:∀ b,H b=none→b≠x:=fun b n z=>by subst z;rw [n] at mu;exact mu
 have hb:∀ b,H b=none→b≠e:=fun b n z=>by
  subst z
  rcases he with r | r
  ·
   exact hx b n r
  ·
   rw [n] at r;cases r
 have hm:∀ b u,H b=some u→¬Mut (some u)→b≠x:=fun b u q nm z=>by subst z;rw [q] at mu;exact nm mu
 refine ⟨fun b u q n _ _=>k b u (hb b n) q,fun b u q n _ _=>⟨u.slots,k b u (hb b n) q⟩,fun b u q n _=>by rw [aH (hx b n)];exact n,fun b u q _=>?_,
  fun b xs q=>by rw [aH (hm b _ q fun z=>z)];exact q,fun b u xs q=>by rw [aH (hm b _ q fun z=>z)];exact q,fun b ps q=>⟨#[],by rw [aH (hm b _ q fun z=>z),q];simp⟩⟩
 by_cases hbe:b=e
 ·
  subst hbe;exact heo
 ·
  exact ⟨u,k b u hbe q⟩
end
def trk (h:Heap) (H:Hp):List Addr:=(List.range h.objs.size).filter fun a=>(H a).isSome
def hidT (h:Heap) (H:Hp):Heap:=PySem.W.hideAll h (trk h H)
theorem hidT_size (h:Heap) (H:Hp):(hidT h H).objs.size=h.objs.size:=PySem.W.hideAll_size _ _
theorem hidT_get {h:Heap} {H:Hp} {b:Addr} {o:Obj} (e:h.get? b=some o) (n:H b=none):(hidT h H).get? b=some o:=
 PySem.W.hideAll_get _ e fun hm=>by
  have q:(H b).isSome=true:=(List.mem_filter.mp hm).2
  rw [n] at q;simp at q
theorem of_hidT {h:Heap} {H:Hp} {b:Addr} {o:Obj} (e:(hidT h H).get? b=some o):h.get? b=some o∧H b=none:=by
 have e':h.get? b=some o:=PySem.W.of_hideAll (trk h H) e
 refine ⟨e',?_⟩
 cases q:H b with
 | none=>rfl
 | some x=>
  have hm:b∈trk h H:=List.mem_filter.mpr ⟨List.mem_range.mpr (Heap.lt_size e'),by simp [q]⟩
  have z:(hidT h H).get? b=none:=PySem.W.hideAll_none (trk h H) hm
  rw [z] at e;cases e
end L2
namespace L2
open PySem PySem.Spec PyProof.Rows
structure Mod (K:PySem.W.Frag) (mg:Str→Option Value) (base:Heap):Prop where
 kin:K.In base
 glob:base.Ns mainGlobals mg
 blt:∃ mb,base.Ns builtinsNs mb∧∀ x:Str,x≠"__name__"→mb x=bootBuiltins x
 nolimit:base.NoLimit
structure Cx where
 prog:Program
 w:World
 K:PySem.W.Frag
 mg:Str→Option Value
 base:Heap
 A:Around
 N:List Str
 s₀:Shared
 H₀:Hp
 env:Env
 outer:List Env
 stack:List Env
 ex:List Addr
 fn:Str→Bool
 calm:Bool
 pn:List (Addr×Obj)
 xe:Value→Shared→Prop
def frs (l:List Env):List Addr:=l.filterMap (·.frame)
abbrev Cx.fs (X:Cx):List Addr:=frs X.outer
def Vis (sc:Scope) (x:Str):Prop:=sc.names.lookup x=some .local∨sc.names.lookup x=some .cell∨sc.names.lookup x=some .free
def Loc (sc:Scope) (x:Str):Prop:=sc.names.lookup x=some .local∨sc.names.lookup x=some .cell
def Look (env:Env) (h:Heap) (m:Str→Option Value) (x:Str) (u:Value):Prop:=
 (env.kindOf x=some .local∧m x=some u)∨((env.kindOf x=some .cell∨env.kindOf x=some .free)∧∃ c,env.cells.lookup x=some c∧h.IsCell c (some u))
structure Cx.Ok (X:Cx):Prop where
 mod:Mod X.K X.mg X.base
 kind:X.env.scope.kind=.function
 glob:X.env.globals=mainGlobals
 blt:X.env.builtins=builtinsNs
 above:X.s₀.heap.objs.size≤X.env.locals
 inj:∀ x y c,X.env.cells.lookup x=some c→X.env.cells.lookup y=some c→x=y
 has:∀ x,(X.env.kindOf x=some .cell∨X.env.kindOf x=some .free)→∃ c,X.env.cells.lookup x=some c
 cab:∀ x c,X.fn x=true→X.env.cells.lookup x=some c→X.s₀.heap.objs.size≤c
 hd:X.calm=true→X.A.handled=none
 frames:X.A.frames=some X.stack
 stk:X.stack=X.outer∨(X.stack=X.env::X.outer∧X.env.frame=some X.env.locals)
 exf:∀ b∈X.ex,b≠X.env.locals∧∀ x c,X.env.cells.lookup x=some c→c≠b
 bs:∀ b o,X.base.get? b=some o→X.s₀.heap.get? b=some o∧X.H₀ b=none
 bsz:X.base.objs.size≤X.s₀.heap.objs.size
 noex:∀ b o,X.base.get? b=some o→b∉X.ex
 exfs:∀ b∈X.ex,b∉X.fs
 funs:X.s₀.heap.FunFrames X.base X.outer
 frf:∀ b∈X.fs,X.H₀ b=none
structure Inv (X:Cx) (pins:List (Addr×Obj)) (σ:List (Option V)) (H:Hp) (s:Shared):Prop where
 ok:X.Ok
 os:s.os=X.s₀.os
 bare:AllBare s.gens
 base:Un X.fs X.ex X.H₀ H X.s₀.heap s.heap
 loc:∃ m,s.heap.Ns X.env.locals m∧∀ (i:Nat) (x:Str) (v:V),X.N[i]?=some x→σ[i]?=some (some v)→Vis X.env.scope x→∃ u,RelV v u∧Look X.env s.heap m x u
 cell:∀ x c,X.env.cells.lookup x=some c→∃ v,s.heap.IsCell c v
 free:H X.env.locals=none
 freeC:∀ x c,X.env.cells.lookup x=some c→H c=none
 pin:∀ p∈X.pn++pins,s.heap.get? p.1=some p.2∧H p.1=none∧p.1≠X.env.locals∧p.1∉X.fs∧∀ v,p.2.data≠.cell v
 hok:HOk X.prog X.w H s.heap
 len:σ.length=X.N.length
section
variable {X:Cx} {pins:List (Addr×Obj)} {σ:List (Option V)} {H H':Hp} {s:Shared} {h':Heap}
theorem Cx.Ok.nofr (ok:X.Ok) {b:Addr} {o:Obj} (e:X.base.get? b=some o):b∉X.fs:=fun hb=>by
 have:=(ok.funs.mem hb).1
 rw [e] at this;cases this
theorem Inv.bs (I:Inv X pins σ H s):∀ b o,X.base.get? b=some o→s.heap.get? b=some o∧H b=none:=fun b o e=>
 ⟨I.base.keep b o (I.ok.bs b o e).1 (I.ok.bs b o e).2 (I.ok.nofr e) (I.ok.noex b o e),I.base.free b o (I.ok.bs b o e).1 (I.ok.bs b o e).2 (I.ok.noex b o e)⟩
theorem Inv.bk (I:Inv X pins σ H s):∀ b o,X.base.get? b=some o→s.heap.get? b=some o:=fun b o e=>(I.bs b o e).1
theorem Inv.mod (I:Inv X pins σ H s):Mod X.K X.mg X.base:=I.ok.mod
theorem Inv.kIn (I:Inv X pins σ H s):X.K.In s.heap:=I.ok.mod.kin.keeps I.bk
theorem Inv.lt (I:Inv X pins σ H s):X.env.locals<s.heap.objs.size:=let ⟨_,hn,_⟩:=I.loc;hn.lt
theorem Inv.sz (I:Inv X pins σ H s):X.s₀.heap.objs.size≤s.heap.objs.size:=Nat.le_trans I.ok.above (Nat.le_of_lt I.lt)
theorem Inv.nofs (I:Inv X pins σ H s) {a:Addr} (h:s.heap.objs.size≤a):a∉X.fs:=fun hb=>by
 obtain ⟨_,o,ho,_⟩:=I.ok.funs.mem hb
 exact absurd (Nat.lt_of_lt_of_le (Heap.lt_size ho) (Nat.le_trans I.sz h)) (Nat.lt_irrefl _)
theorem Inv.cne (I:Inv X pins σ H s):∀ x c,X.env.cells.lookup x=some c→c≠X.env.locals:=fun x c e z=>by
 obtain ⟨v,o,ho,hd⟩:=I.cell x c e
 obtain ⟨m,⟨o',es,ep,ho',hd',_⟩,_⟩:=I.loc
 rw [z,ho'] at ho;cases ho;rw [hd'] at hd;cases hd
theorem Inv.funs (I:Inv X pins σ H s):s.heap.FunFrames X.base X.outer:=by
 have all:∀ (l:List Env),(∀ b∈frs l,b∈X.fs)→X.s₀.heap.FunFrames X.base l→s.heap.FunFrames X.base l:=by
  intro l
  induction l with
  | nil=>intro _ _;trivial
  | cons env r ih=>
   intro hs hl
   obtain ⟨hk,⟨L,o,hf,hn,ho,hd⟩,hr⟩:=hl
   have hL:L∈X.fs:=hs L (by unfold frs;rw [List.filterMap_cons,hf];exact List.mem_cons_self)
   obtain ⟨sl,e⟩:=I.base.slot L o ho (I.ok.frf L hL) hL fun z=>I.ok.exfs L z hL
   exact ⟨hk,⟨L,_,hf,hn,e,hd⟩,ih (fun b hb=>hs b (by unfold frs;rw [List.filterMap_cons,hf];exact List.mem_cons_of_mem _ hb)) hr⟩
 exact all X.outer (fun _ hb=>hb) I.ok.funs
theorem Inv.stack (I:Inv X pins σ H s):s.heap.FunFrames X.base X.stack:=by
 rcases I.ok.stk with e | ⟨e,hf⟩
 ·
  rw [e];exact I.funs
 ·
  rw [e]
  obtain ⟨m,hn,_⟩:=I.loc
  refine .cons (by rw [I.ok.kind];decide) hf hn ?_ I.funs
  exact Heap.get?_none_of_le (Nat.le_trans I.ok.bsz I.ok.above)
theorem Inv.stkSub (I:Inv X pins σ H s):∀ b∈frs X.stack,b∈X.env.locals::X.fs:=fun b hb=>by
 rcases I.ok.stk with e | ⟨e,hf⟩
 ·
  rw [e] at hb;exact List.mem_cons_of_mem _ hb
 ·
  rw [e] at hb
  unfold frs at hb
  rw [List.filterMap_cons,hf] at hb
  exact hb
theorem Inv.stkFree (I:Inv X pins σ H s):∀ b∈frs X.stack,H b=none:=fun b hb=>by
 rcases List.mem_cons.mp (I.stkSub b hb) with e | hb
 ·
  rw [e];exact I.free
 ·
  obtain ⟨_,o,ho,_⟩:=I.ok.funs.mem hb
  exact I.base.free b o ho (I.ok.frf b hb) fun z=>I.ok.exfs b z hb
theorem Inv.step {g':Array GenState} {t':Nat} {d':Drawn} {ch:List Addr} (I:Inv X pins σ H s)
  (hch:∀ b∈ch,(b∈X.ex∨X.s₀.heap.objs.size≤b)∧b≠X.env.locals∧(∀ x c,X.env.cells.lookup x=some c→c≠b)∧∀ p∈X.pn++pins,p.1≠b)
  (keep:∀ b o,b≠X.env.locals→b∉X.fs→b∉ch→s.heap.get? b=some o→H b=none→h'.get? b=some o)
  (slot:∀ b o,b≠X.env.locals→b∈X.fs→b∉ch→s.heap.get? b=some o→H b=none→∃ sl,h'.get? b=some { o with slots:=sl }) (free:∀ b o,b∉ch→s.heap.get? b=some o→H b=none→H' b=none)
  (there:∀ b o,b∉ch→s.heap.get? b=some o→∃ o',h'.get? b=some o')
  (tups:∀ b xs,H b=some (.tup xs)→H' b=some (.tup xs)) (frzs:∀ b o u,H b=some (.frz o u)→H' b=some (.frz o u)) (tbls:∀ b ps,H b=some (.tbl ps)→∃ more,H' b=some (.tbl (ps++more)))
  (ns:∀ m,s.heap.Ns X.env.locals m→h'.Ns X.env.locals m) (hok:HOk X.prog X.w H' h') (hg:AllBare g') :
  Inv X pins σ H' { s with heap:=h',gens:=g',drawn:=d',toks:=t' }:=by
 have neL:∀ b o,X.s₀.heap.get? b=some o→b≠X.env.locals:=fun b o e=>Nat.ne_of_lt (Nat.lt_of_lt_of_le (Heap.lt_size e) I.ok.above)
 have neC:∀ b o,X.s₀.heap.get? b=some o→b∉X.ex→b∉ch:=fun b o e hx hb=>by
  rcases (hch b hb).1 with z | z
  ·
   exact hx z
  ·
   exact absurd (Nat.lt_of_lt_of_le (Heap.lt_size e) z) (Nat.lt_irrefl _)
 have cellK:∀ x c,X.env.cells.lookup x=some c→∀ v,s.heap.IsCell c v→h'.IsCell c v:=fun x c e v ⟨o,ho,hd⟩=>by
  have nch:c∉ch:=fun z=>(hch c z).2.2.1 x c e rfl
  by_cases hc:c∈X.fs
  ·
   obtain ⟨sl,q⟩:=slot c o (I.cne x c e) hc nch ho (I.freeC x c e)
   exact ⟨_,q,hd⟩
  ·
   exact ⟨o,keep c o (I.cne x c e) hc nch ho (I.freeC x c e),hd⟩
 refine ⟨I.ok,I.os,hg,⟨fun b o e n hb hx=>?_,fun b o e n hb hx=>?_,fun b o e n hx=>?_,fun b o e hx=>?_,fun b xs e=>tups b xs (I.base.tups b xs e),fun b o xs e=>frzs b o xs (I.base.frzs b o xs e),fun b ps e=>?_⟩,?_,fun x c e=>?_,?_,fun x c e=>?_,fun p hp=>?_,hok,I.len⟩
 ·
  exact keep b o (neL b o e) hb (neC b o e hx) (I.base.keep b o e n hb hx) (I.base.free b o e n hx)
 ·
  obtain ⟨sl,e1⟩:=I.base.slot b o e n hb hx
  obtain ⟨sl',e2⟩:=slot b _ (neL b o e) hb (neC b o e hx) e1 (I.base.free b o e n hx)
  exact ⟨sl',e2⟩
 ·
  obtain ⟨o',e1⟩:=I.base.there b o e hx
  exact free b o' (neC b o e hx) e1 (I.base.free b o e n hx)
 ·
  obtain ⟨o',e1⟩:=I.base.there b o e hx
  exact there b o' (neC b o e hx) e1
 ·
  obtain ⟨m1,e1⟩:=I.base.tbls b ps e
  obtain ⟨m2,e2⟩:=tbls b _ e1
  exact ⟨m1++m2,by rw [e2,Array.append_assoc]⟩
 ·
  obtain ⟨m,hn,hl⟩:=I.loc
  refine ⟨m,ns m hn,fun i x v e1 e2 e3=>?_⟩
  obtain ⟨u,r,l⟩:=hl i x v e1 e2 e3
  refine ⟨u,r,?_⟩
  rcases l with l | ⟨k,c,e,z⟩
  ·
   exact .inl l
  ·
   exact .inr ⟨k,c,e,cellK x c e _ z⟩
 ·
  obtain ⟨v,z⟩:=I.cell x c e
  exact ⟨v,cellK x c e v z⟩
 ·
  obtain ⟨m,⟨o,_,_,ho,_⟩,_⟩:=I.loc
  exact free _ o (fun z=>(hch _ z).2.1 rfl) ho I.free
 ·
  obtain ⟨v,o,ho,hd⟩:=I.cell x c e
  exact free c o (fun z=>(hch c z).2.2.1 x c e rfl) ho (I.freeC x c e)
 ·
  obtain ⟨e,n,ne,nf,d⟩:=I.pin p hp
  have nch:p.1∉ch:=fun z=>(hch p.1 z).2.2.2 p hp rfl
  exact ⟨keep p.1 p.2 ne nf nch e n,free p.1 p.2 nch e n,ne,nf,d⟩
theorem Inv.un {t':Nat} (I:Inv X pins σ H s) (u:Un X.fs [] H H' s.heap h') (hok:HOk X.prog X.w H' h'):Inv X pins σ H' { s with heap:=h',toks:=t' }:=by
 obtain ⟨m,⟨o,es,ep,ho,r⟩,_⟩:=id I.loc
 obtain ⟨sl,hL⟩:=u.any ho I.free (by simp)
 exact I.step (g':=s.gens) (d':=s.drawn) (ch:=[]) (fun _ z=>nomatch z) (fun b o _ hb _ e n=>u.keep b o e n hb (by simp)) (fun b o _ hb _ e n=>u.slot b o e n hb (by simp)) (fun b o _ e n=>u.free b o e n (by simp)) (fun b o _ e=>u.there b o e (by simp)) u.tups u.frzs u.tbls (fun m' hm=>by
  obtain ⟨o',es',ep',ho',r'⟩:=hm
  rw [ho] at ho';cases ho'
  exact ⟨_,es',ep',hL,r'⟩) hok I.bare
theorem Inv.call {g':Array GenState} {t':Nat} {d':Drawn} {ch:List Addr} (I:Inv X pins σ H s) (u:Un (frs X.stack) ch H H' s.heap h') (hok:HOk X.prog X.w H' h') (hg:AllBare g')
  (hch:∀ b∈ch,(b∈X.ex∨X.s₀.heap.objs.size≤b)∧b≠X.env.locals∧(∀ x c,X.env.cells.lookup x=some c→c≠b)∧∀ p∈X.pn++pins,p.1≠b) :
  Inv X pins σ H' { s with heap:=h',gens:=g',drawn:=d',toks:=t' }:=by
 obtain ⟨m,⟨o,es,ep,ho,r⟩,_⟩:=id I.loc
 obtain ⟨sl,hL⟩:=u.any ho I.free fun z=>(hch _ z).2.1 rfl
 exact I.step (ch:=ch) hch (fun b o hL hb hc e n=>u.keep b o e n (fun z=>(List.mem_cons.mp (I.stkSub b z)).elim hL hb) hc) (fun b o _ _ hc e n=>u.any e n hc) (fun b o hc e n=>u.free b o e n hc) (fun b o hc e=>u.there b o e hc) u.tups u.frzs u.tbls (fun m' hm=>by
  obtain ⟨o',es',ep',ho',r'⟩:=hm
  rw [ho] at ho';cases ho'
  exact ⟨_,es',ep',hL,r'⟩) hok hg
theorem Inv.turned {t':Nat} {it:Addr} (I:Inv X pins σ H s) (k:∀ b o,b≠it→s.heap.get? b=some o→h'.get? b=some o) (hn:H it=none) (hL:it≠X.env.locals)
  (h1:it∈X.ex∨X.s₀.heap.objs.size≤it) (h2:∀ x c,X.env.cells.lookup x=some c→c≠it) (h3:∀ p∈X.pn++pins,p.1≠it):Inv X pins σ H { s with heap:=h',toks:=t' }:=by
 have nit:∀ b u,H b=some u→b≠it:=fun b u e z=>by rw [z,hn] at e;cases e
 refine I.step (g':=s.gens) (d':=s.drawn) (ch:=[it]) (fun b hb=>?_) (fun b o _ _ hc e _=>k b o (fun z=>hc (by simp [z])) e) (fun b o _ _ hc e _=>⟨o.slots,k b o (fun z=>hc (by simp [z])) e⟩) (fun _ _ _ _ n=>n)
  (fun b o hc e=>⟨o,k b o (fun z=>hc (by simp [z])) e⟩) (fun _ _ e=>e) (fun _ _ _ e=>e) (fun b ps e=>⟨#[],by rw [e];simp⟩) (fun m hm=>?_) (fun b u e=>?_) I.bare
 ·
  have e:b=it:=by simpa using hb
  subst e
  exact ⟨h1,hL,h2,h3⟩
 ·
  obtain ⟨o,es,ep,ho,r⟩:=hm
  exact ⟨o,es,ep,k _ o (Ne.symm hL) ho,r⟩
 ·
  refine (I.hok b u e).stay (fun c v hc q=>k c v ?_ q) (fun _ q=>q) fun _ _ q=>q
  rcases hc with z | z
  ·
   rw [z];exact nit b u e
  ·
   exact nit c _ z
theorem Inv.tok (I:Inv X pins σ H s) (t:Nat):Inv X pins σ H { s with toks:=t }:=I.un (h':=s.heap) (t':=t) Un.refl I.hok
theorem Inv.kept {t':Nat} (I:Inv X pins σ H s) (k:∀ b u,s.heap.get? b=some u→h'.get? b=some u):Inv X pins σ H { s with heap:=h',toks:=t' }:=I.un (Un.kept k) (I.hok.kept k)
theorem Inv.laid {a:Addr} {o:HO} {t':Nat} (I:Inv X pins σ H s) (k:∀ b u,s.heap.get? b=some u→h'.get? b=some u) (hp:s.heap.objs.size≤a) (new:cB X.prog X.w (upd H a o) h' a o) :
 Inv X pins σ (upd H a o) { s with heap:=h',toks:=t' }:=I.un (Un.laid k hp (I.hok.fresh hp)) (I.hok.laid k hp new)
theorem Inv.write {x e:Addr} {o:HO} {t':Nat} (I:Inv X pins σ H s) (mu:Mut (H x)) (he:e=x∨H e=some (.own x)) (k:∀ b u,b≠e→s.heap.get? b=some u→h'.get? b=some u) (heo:∃ u,h'.get? e=some u)
 (new:cB X.prog X.w (upd H x o) h' x o):Inv X pins σ (upd H x o) { s with heap:=h',toks:=t' }:=I.un (Un.write mu he k heo) (I.hok.write mu he k heo new)
theorem Inv.pins_of {pins':List (Addr×Obj)} (I:Inv X pins σ H s) (h:∀ p∈pins',s.heap.get? p.1=some p.2∧H p.1=none∧p.1≠X.env.locals∧p.1∉X.fs∧∀ v,p.2.data≠.cell v):Inv X pins' σ H s:=
 ⟨I.ok,I.os,I.bare,I.base,I.loc,I.cell,I.free,I.freeC,fun p hp=>(List.mem_append.mp hp).elim (fun z=>I.pin p (List.mem_append_left _ z)) (h p),I.hok,I.len⟩
theorem nN {N:List Str} (hN:N.Nodup) {i j:Nat} {x:Str} (a:N[i]?=some x) (b:N[j]?=some x):i=j:=by
 obtain ⟨h1,e1⟩:=List.getElem?_eq_some_iff.mp a
 obtain ⟨h2,e2⟩:=List.getElem?_eq_some_iff.mp b
 exact (List.getElem_inj hN).mp (e1.trans e2.symm)
theorem lM {M:Model} {A:Around} {E:Value→Shared→Prop} {i:Nat} {x:Str} {v:V} {u:Value} {Q:Unit→Shared→Prop} (I:Inv X pins σ H s) (hN:X.N.Nodup) (hi:X.N[i]?=some x) (hx:Loc X.env.scope x) (r:RelV v u)
  (h:∀ s',Inv X pins (σ.set i (some v)) H s'→(∃ a,Heap.SameBut a s.heap s'.heap∧(a=X.env.locals∨X.env.cells.lookup x=some a))→Q () s') (hf:X.fn x=true∨X.env.scope.names.lookup x=some .local:=by first | exact .inl rfl | exact .inr rfl | assumption):wpAny M A (storeName X.env x u) Q E s:=by
 obtain ⟨m,hn,hl⟩:=id I.loc
 have hcls:(X.env.scope.kind==.class||(X.env.scope.kind==.module&&X.env.locals != X.env.globals))=false:=by rw [I.ok.kind];rfl
 have hiσ:i<σ.length:=by rw [I.len];exact (List.getElem?_eq_some_iff.mp hi).1
 have cne:=I.cne
 have tracked:∀ {a:Addr} {h':Heap},(∃ o,s.heap.get? a=some o∧H a=none)→Heap.SameBut a s.heap h'→HOk X.prog X.w H h':=fun {a h'} ha hs b ob e=>by
  obtain ⟨_,_,hfree⟩:=ha
  refine (I.hok b ob e).stay (fun c w' hc q=>(hs.2 c ?_).trans q) (fun _ q=>q) fun _ _ q=>q
  rintro rfl
  rcases hc with rfl | hc
  ·
   rw [hfree] at e;cases e
  ·
   rw [hfree] at hc;cases hc
 rcases hx with hk | hk
 ·
  refine wpAny_storeName_local hk hn (fun h' hn' hs=>?_) hcls
  obtain ⟨oL,_,_,hoL,_⟩:=id hn
  refine h _ ⟨I.ok,I.os,I.bare,⟨fun b o e n hb hx=>?_,fun b o e n hb hx=>?_,I.base.free,fun b o e hx=>?_,I.base.tups,I.base.frzs,I.base.tbls⟩,⟨_,hn',fun j y v' e1 e2 e3=>?_⟩,fun y c e=>?_,I.free,I.freeC,fun p hp=>?_,tracked ⟨oL,hoL,I.free⟩ hs,by simpa using I.len⟩ ⟨_,hs,.inl rfl⟩
  ·
   exact (hs.2 b (Nat.ne_of_lt (Nat.lt_of_lt_of_le (Heap.lt_size e) I.ok.above))).trans (I.base.keep b o e n hb hx)
  ·
   obtain ⟨sl,e1⟩:=I.base.slot b o e n hb hx
   exact ⟨sl,(hs.2 b (Nat.ne_of_lt (Nat.lt_of_lt_of_le (Heap.lt_size e) I.ok.above))).trans e1⟩
  ·
   obtain ⟨o',e1⟩:=I.base.there b o e hx
   exact ⟨o',(hs.2 b (Nat.ne_of_lt (Nat.lt_of_lt_of_le (Heap.lt_size e) I.ok.above))).trans e1⟩
  ·
   by_cases hj:j=i
   ·
    subst hj
    rw [hi] at e1;cases e1
    rw [List.getElem?_set_self hiσ] at e2
    cases e2
    exact ⟨u,r,.inl ⟨hk,by simp⟩⟩
   ·
    rw [List.getElem?_set_ne (Ne.symm hj)] at e2
    obtain ⟨u',r',q⟩:=hl j y v' e1 e2 e3
    refine ⟨u',r',?_⟩
    rcases q with ⟨k,e⟩ | ⟨k,c,e,z⟩
    ·
     refine .inl ⟨k,?_⟩
     have:y≠x:=fun e=>hj (nN hN e1 (e▸hi))
     simp [this,e]
    ·
     exact .inr ⟨k,c,e,z.sameBut hs (cne y c e)⟩
  ·
   obtain ⟨w',z⟩:=I.cell y c e
   exact ⟨w',z.sameBut hs (cne y c e)⟩
  ·
   obtain ⟨e,n,ne,nf,d⟩:=I.pin p hp
   exact ⟨(hs.2 p.1 ne).trans e,n,ne,nf,d⟩
 ·
  have hfn:X.fn x=true:=by
   rcases hf with z | z
   ·
    exact z
   ·
    rw [z] at hk;cases hk
  obtain ⟨c,hc⟩:=I.ok.has x (.inl hk)
  obtain ⟨w',z⟩:=I.cell x c hc
  refine wpAny_storeName_cell I.ok.kind hk hc z (fun h' hc' hs=>?_)
  obtain ⟨oc,hoc,hocd⟩:=id z
  refine h { s with heap:=h' } ⟨I.ok,I.os,I.bare,⟨fun b o e n hb hx=>?_,fun b o e n hb hx=>?_,I.base.free,fun b o e hx=>?_,I.base.tups,I.base.frzs,I.base.tbls⟩,⟨m,hn.sameBut hs (Ne.symm (cne x c hc)),fun j y v' e1 e2 e3=>?_⟩,fun y c' e=>?_,I.free,I.freeC,fun p hp=>?_,tracked ⟨oc,hoc,I.freeC x c hc⟩ hs,by simpa using I.len⟩ ⟨c,hs,.inr hc⟩
  ·
   exact (hs.2 b (Nat.ne_of_lt (Nat.lt_of_lt_of_le (Heap.lt_size e) (I.ok.cab x c hfn hc)))).trans (I.base.keep b o e n hb hx)
  ·
   obtain ⟨sl,e1⟩:=I.base.slot b o e n hb hx
   exact ⟨sl,(hs.2 b (Nat.ne_of_lt (Nat.lt_of_lt_of_le (Heap.lt_size e) (I.ok.cab x c hfn hc)))).trans e1⟩
  ·
   obtain ⟨o',e1⟩:=I.base.there b o e hx
   exact ⟨o',(hs.2 b (Nat.ne_of_lt (Nat.lt_of_lt_of_le (Heap.lt_size e) (I.ok.cab x c hfn hc)))).trans e1⟩
  ·
   by_cases hj:j=i
   ·
    subst hj
    rw [hi] at e1;cases e1
    rw [List.getElem?_set_self hiσ] at e2
    cases e2
    exact ⟨u,r,.inr ⟨.inl hk,c,hc,hc'⟩⟩
   ·
    rw [List.getElem?_set_ne (Ne.symm hj)] at e2
    obtain ⟨u',r',q⟩:=hl j y v' e1 e2 e3
    refine ⟨u',r',?_⟩
    rcases q with q | ⟨k,c',e,z'⟩
    ·
     exact .inl q
    ·
     refine .inr ⟨k,c',e,z'.sameBut hs ?_⟩
     rintro rfl
     exact hj (nN hN e1 (I.ok.inj _ _ _ e hc▸hi))
  ·
   by_cases hcc:c'=c
   ·
    subst hcc;exact ⟨_,hc'⟩
   ·
    obtain ⟨w2,z2⟩:=I.cell y c' e
    exact ⟨w2,z2.sameBut hs hcc⟩
  ·
   obtain ⟨e,n,ne,nf,d⟩:=I.pin p hp
   refine ⟨(hs.2 p.1 ?_).trans e,n,ne,nf,d⟩
   intro q
   rw [q,hoc] at e
   have q':oc=p.2:=Option.some.inj e
   exact d w' (by rw [←q'];exact hocd)
theorem gi {M:Model} {A:Around} {E:Value→Shared→Prop} {i:Nat} {x:Str} {v:V} {u:Value} {Q:Unit→Shared→Prop} (I:Inv X pins σ H s) (hN:X.N.Nodup) (hi:X.N[i]?=some x) (hx:Loc X.env.scope x) (r:RelV v u)
  (h:∀ s',Inv X pins (σ.set i (some v)) H s'→Q () s') (hf:X.fn x=true∨X.env.scope.names.lookup x=some .local:=by first | exact .inl rfl | exact .inr rfl | assumption):wpAny M A (storeName X.env x u) Q E s:=
 lM I hN hi hx r (fun s' I' _=>h s' I') hf
theorem Inv.call' {s':Shared} {ch:List Addr} (I:Inv X pins σ H s) (ho:s'.os=s.os) (u:Un (frs X.stack) ch H H' s.heap s'.heap) (hok:HOk X.prog X.w H' s'.heap) (hg:AllBare s'.gens)
  (hch:∀ b∈ch,(b∈X.ex∨X.s₀.heap.objs.size≤b)∧b≠X.env.locals∧(∀ x c,X.env.cells.lookup x=some c→c≠b)∧∀ p∈X.pn++pins,p.1≠b):Inv X pins σ H' s':=by
 obtain ⟨h',g',d',t',o'⟩:=s'
 have e:o'=s.os:=ho
 subst e
 exact I.call (g':=g') (t':=t') (d':=d') u hok hg hch
end
abbrev XK:=Value→Option Addr→Hp→Prop
abbrev St:=List (Option V)
abbrev VK:=V→Hp→Prop
abbrev TE:=St→Hp→VK→Prop
abbrev TT:=St→Hp→(Bool→Hp→Prop)→Prop
abbrev TA:=St→Hp→(List V→Hp→Prop)→Prop
structure Ends where
 nx:St→Hp→Prop
 rt:VK
 bk:St→Hp→Prop:=fun _ _=>False
 ct:St→Hp→Prop:=fun _ _=>False
abbrev TS:=Ends→St→Hp→Prop
def EP (X:Cx) (pins:List (Addr×Obj)) (σ:St) (Q:VK) (u:Value) (s':Shared):Prop:=∃ v H',Inv X pins σ H' s'∧RelV v u∧Q v H'
def TP (X:Cx) (pins:List (Addr×Obj)) (σ:St) (Q:Bool→Hp→Prop) (b:Bool) (s':Shared):Prop:=∃ H',Inv X pins σ H' s'∧Q b H'
def AP (X:Cx) (pins:List (Addr×Obj)) (σ:St) (Q:List V→Hp→Prop) (us:List Value) (s':Shared):Prop:=∃ vs H',Inv X pins σ H' s'∧aQ vs us∧Q vs H'
def SP (X:Cx) (pins:List (Addr×Obj)) (D:Ends) (f:Flow) (s':Shared):Prop:=
 match f with
 | .next=>∃ σ' H',Inv X pins σ' H' s'∧D.nx σ' H'
 | .brk=>∃ σ' H',Inv X pins σ' H' s'∧D.bk σ' H'
 | .cont=>∃ σ' H',Inv X pins σ' H' s'∧D.ct σ' H'
 | .ret u=>∃ v σ' H',Inv X pins σ' H' s'∧RelV v u∧D.rt v H'
def PE (X:Cx) (e:Expr) (t:TE):Prop:=
 ∀ (pins:List (Addr×Obj)) (s:Shared) (σ:St) (H:Hp) (Q:VK),Inv X pins σ H s→t σ H Q→wpAny (model X.prog X.w) X.A (eval e X.env) (EP X pins σ Q) X.xe s
def PT (X:Cx) (e:Expr) (t:TT):Prop:=
 ∀ (pins:List (Addr×Obj)) (s:Shared) (σ:St) (H:Hp) (Q:Bool→Hp→Prop),Inv X pins σ H s→t σ H Q→wpAny (model X.prog X.w) X.A (isTrue e X.env (eval e X.env)) (TP X pins σ Q) X.xe s
def PW (X:Cx) (e:Expr) (t:TT):Prop:=
 ∀ (whole:Sem Value) (pins:List (Addr×Obj)) (s:Shared) (σ:St) (H:Hp) (Q:Bool→Hp→Prop),Inv X pins σ H s→t σ H Q→wpAny (model X.prog X.w) X.A (isTrue e X.env whole) (TP X pins σ Q) X.xe s
theorem PW.pt {X:Cx} {e:Expr} {t:TT} (h:PW X e t):PT X e t:=h _
def PA (X:Cx) (es:List Expr) (t:TA):Prop:=
 ∀ (pos:Pos) (pins:List (Addr×Obj)) (s:Shared) (σ:St) (H:Hp) (Q:List V→Hp→Prop),Inv X pins σ H s→t σ H Q→wpAny (model X.prog X.w) X.A (spliced (backTo pos (starEach es X.env))) (AP X pins σ Q) X.xe s
def PS (X:Cx) (st:Stmt) (t:TS):Prop:=
 ∀ (pins:List (Addr×Obj)) (s:Shared) (σ:St) (H:Hp) (D:Ends),Inv X pins σ H s→t D σ H→wpAny (model X.prog X.w) X.A (exec st X.env) (SP X pins D) X.xe s
def PSs (X:Cx) (st:List Stmt) (t:TS):Prop:=
 ∀ (pins:List (Addr×Obj)) (s:Shared) (σ:St) (H:Hp) (D:Ends),Inv X pins σ H s→t D σ H→wpAny (model X.prog X.w) X.A (execs st X.env) (SP X pins D) X.xe s
theorem thn {α:Type} {t:Sem α} {Q Q':α→Shared→Prop} {M:Model} {A:Around} {E:Value→Shared→Prop} {s:Shared} (h:wpAny M A t Q E s) (hQ:∀ a s,Q a s→Q' a s):wpAny M A t Q' E s:=wpAny_mono h hQ fun _ _ x=>x
end L2
namespace L2
open PySem PySem.Spec PyProof.Rows
section
variable {X:Cx}
theorem bin {a b:Expr} {ta tb:TE} (ha:PE X a ta) (hb:PE X b tb) {pins:List (Addr×Obj)} {s:Shared} {σ:St} {H:Hp} {R:V→V→Hp→Prop} (I:Inv X pins σ H s) (h:ta σ H fun x H1=>tb σ H1 fun y H2=>R x y H2)
  {α:Type} {Q:α→Shared→Prop} {f:Value→Value→Sem α}
  (hf:∀ v u s2 x y H2,Inv X pins σ H2 s2→RelV x v→RelV y u→R x y H2→wpAny (model X.prog X.w) X.A (f v u) Q X.xe s2) :
  wpAny (model X.prog X.w) X.A (eval a X.env) (fun v s₁=>wpAny (model X.prog X.w) X.A (eval b X.env) (fun u s₂=>wpAny (model X.prog X.w) X.A (f v u) Q X.xe s₂) X.xe s₁) X.xe s:=by
 refine thn (ha pins s σ H _ I h) fun v s1 ⟨x,H1,I1,r1,q1⟩=>?_
 refine thn (hb pins s1 σ H1 _ I1 q1) fun u s2 ⟨y,H2,I2,r2,q2⟩=>?_
 exact hf v u s2 x y H2 I2 r1 r2 q2
def jY (i:Nat):TE:=fun σ H Q=>∃ v,σ[i]?=some (some v)∧Q v H
def tC (v:V):TE:=fun _ H Q=>Q v H
theorem pe_var {i:Nat} {x:Str} {pos:Pos} (hN:X.N[i]?=some x) (hv:Vis X.env.scope x) (hd:(x==("__debug__" : Str))=false:=by decide) (hcd:(x==("__classdict__" : Str))=false:=by decide):PE X (.Name x pos) (jY i):=by
 intro pins s σ H Q I h
 obtain ⟨v,e,h⟩:=h
 obtain ⟨m,hn,hl⟩:=I.loc
 obtain ⟨u,r,l⟩:=hl i x v hN e hv
 have fin:EP X pins σ Q u s:=⟨v,H,I,r,h⟩
 rcases l with ⟨hk,hm⟩ | ⟨hk,c,hc,hcell⟩
 ·
  exact wpAny_Name (wpAny_loadName_local I.ok.kind hk hn hm fin) hd
 ·
  rcases hk with hk | hk
  ·
   exact wpAny_Name (wpAny_loadName_cell I.ok.kind hk hc hcell fin) hd
  ·
   exact wpAny_Name (wpAny_loadName_free I.ok.kind hk hc hcell fin hcd) hd
theorem pe_int {i j pos}:PE X (.Constant (.int i) j pos) (tC (.int i)):=fun _ _ _ H _ I h=>wpAny_Constant_int ⟨.int i,H,I.tok _,⟨_,rfl⟩,h⟩
theorem pe_bl {b j pos}:PE X (.Constant (.bool b) j pos) (tC (.bl b)):=fun _ _ _ H _ I h=>Constant_bool ⟨.bl b,H,I,rfl,h⟩
theorem pe_non {j pos}:PE X (.Constant .none j pos) (tC .non):=fun _ _ _ H _ I h=>Constant_none ⟨.non,H,I,rfl,h⟩
def Gl (X:Cx) (x:Str):Prop:=X.env.kindOf x=some .globalImplicit
theorem mI {E:Value→Shared→Prop} {pins:List (Addr×Obj)} {s:Shared} {σ:St} {H:Hp} {x:Str} {u:Value} {pos:Pos} {Q:Value→Shared→Prop} (I:Inv X pins σ H s) (hg:Gl X x) (hm:X.mg x=some u) (h:Q u s)
  (hd:(x==("__debug__" : Str))=false:=by decide):wpAny (model X.prog X.w) X.A (eval (.Name x pos) X.env) Q E s:=
 Calls.Name_function_global I.ok.kind hg (Calls.loadGlobal_global (by rw [I.ok.glob];exact I.mod.glob.keeps I.bk) hm h) hd
theorem ib {E:Value→Shared→Prop} {pins:List (Addr×Obj)} {s:Shared} {σ:St} {H:Hp} {x:Str} {u:Value} {pos:Pos} {Q:Value→Shared→Prop} (I:Inv X pins σ H s) (hg:Gl X x) (hm:X.mg x=none) (hv:bootBuiltins x=some u) (h:Q u s)
  (hn:x≠"__name__":=by decide) (hd:(x==("__debug__" : Str))=false:=by decide):wpAny (model X.prog X.w) X.A (eval (.Name x pos) X.env) Q E s:=by
 obtain ⟨mb,h1,h2⟩:=I.mod.blt
 exact Calls.Name_function_global I.ok.kind hg (Calls.loadGlobal_builtin (by rw [I.ok.glob];exact I.mod.glob.keeps I.bk) hm (by rw [I.ok.blt];exact h1.keeps I.bk) ((h2 x hn).trans hv) h) hd
theorem pe_glob {x:Str} {v:V} {u:Value} {pos:Pos} (hg:Gl X x) (hm:X.mg x=some u) (r:RelV v u) (hd:(x==("__debug__" : Str))=false:=by decide):PE X (.Name x pos) (tC v):=
 fun _ _ _ H _ I h=>mI I hg hm ⟨v,H,I,r,h⟩ hd
theorem kn {x:Str} {v:V} {u:Value} {pos:Pos} (hg:Gl X x) (hm:X.mg x=none) (hv:bootBuiltins x=some u) (r:RelV v u) (hn:x≠"__name__":=by decide) (hd:(x==("__debug__" : Str))=false:=by decide):PE X (.Name x pos) (tC v):=
 fun _ _ _ H _ I h=>ib I hg hm hv ⟨v,H,I,r,h⟩ hn hd
variable {a b:Expr} {ta tb:TE} {pos:Pos}
def PC (X:Cx) (op:CmpOp) (a b:Expr) (t:TE):Prop:=
 ∀ (pins:List (Addr×Obj)) (s:Shared) (σ:St) (H:Hp) (Q:VK),Inv X pins σ H s→t σ H Q→
  wpAny (model X.prog X.w) X.A (eval a X.env) (fun v s₁=>wpAny (model X.prog X.w) X.A (eval b X.env) (fun u s₂=>wpAny (model X.prog X.w) X.A (compareOp op v u) (EP X pins σ Q) X.xe s₂) X.xe s₁) X.xe s
def tB (t:TE):TT:=fun σ H Q=>t σ H fun x H1=>∃ c,x=.bl c∧Q c H1
theorem pt_cmp {op:CmpOp} {t:TE} (h:PC X op a b t) (h1:behindInMarks op b=false:=by first | exact nobehind _ (by decide) (by decide) | rfl):PT X (.Compare a [op] [b] pos) (tB t):=by
 intro pins s σ H Q I hw
 refine wpAny_isTrue_Compare1 (thn (h pins s σ H _ I hw) fun v s1 h1=>thn h1 fun u s2 h2=>thn h2 fun c s3 ⟨x,H1,I1,r1,q1⟩=>?_) h1
 obtain ⟨d,rfl,q⟩:=q1
 cases r1
 exact wpAny_truthy_bool ⟨H1,I1,q⟩
theorem pt_val {e:Expr} {t:TE} (h:PE X e t) (he:∀ whole,isTrue e X.env whole=(do let v ←whole;standAt e.pos;holding [v] (truthy v)):=by intro _;rfl):PT X e (tB t):=by
 intro pins s σ H Q I hw
 refine isTrue_plain (thn (h pins s σ H _ I hw) fun v s1 ⟨x,H1,I1,r1,q1⟩=>?_) (he _)
 obtain ⟨d,rfl,q⟩:=q1
 cases r1
 exact wpAny_truthy_bool ⟨H1,I1,q⟩
variable {tA tB':TT} {rest:List Expr}
def tAnd (t u:TT):TT:=fun σ H Q=>t σ H fun c H1=>if c=true then u σ H1 Q else Q false H1
def tOr (t u:TT):TT:=fun σ H Q=>t σ H fun c H1=>if c=true then Q true H1 else u σ H1 Q
def tNot (t:TT):TT:=fun σ H Q=>t σ H fun c H1=>Q (!c) H1
theorem pw_and1 (ha:PT X a tA):PW X (.BoolOp .And [a] pos) tA:=by
 intro wh pins s σ H Q I h
 refine isTrue_and (thn (ha pins s σ H Q I h) fun c s1 e=>?_)
 cases c with
 | true=>exact isTrue_and_nil e
 | false=>exact e
theorem pw_or1 (ha:PT X a tA):PW X (.BoolOp .Or [a] pos) tA:=by
 intro wh pins s σ H Q I h
 refine isTrue_or (thn (ha pins s σ H Q I h) fun c s1 e=>?_)
 cases c with
 | false=>exact isTrue_or_nil e
 | true=>exact e
theorem pw_and (ha:PT X a tA) (hb:PW X (.BoolOp .And (b::rest) pos) tB'):PW X (.BoolOp .And (a::b::rest) pos) (tAnd tA tB'):=by
 intro wh pins s σ H Q I h
 refine isTrue_and (thn (ha pins s σ H _ I h) fun c s1 ⟨H1,I1,q1⟩=>?_)
 cases c with
 | true=>exact hb wh pins s1 σ H1 Q I1 q1
 | false=>exact ⟨H1,I1,q1⟩
theorem pw_or (ha:PT X a tA) (hb:PW X (.BoolOp .Or (b::rest) pos) tB'):PW X (.BoolOp .Or (a::b::rest) pos) (tOr tA tB'):=by
 intro wh pins s σ H Q I h
 refine isTrue_or (thn (ha pins s σ H _ I h) fun c s1 ⟨H1,I1,q1⟩=>?_)
 cases c with
 | true=>exact ⟨H1,I1,q1⟩
 | false=>exact hb wh pins s1 σ H1 Q I1 q1
theorem pt_not (ha:PT X a tA):PT X (.UnaryOp .Not a pos) (tNot tA):=by
 intro pins s σ H Q I h
 exact isTrue_not (ha pins s σ H (fun c H1=>Q (!c) H1) I h)
def tAndV (ta tb:TE):TE:=fun σ H Q=>ta σ H fun x H1=>∃ c,x=.bl c∧if c=true then tb σ H1 Q else Q (.bl false) H1
def tNotV (ta:TE):TE:=fun σ H Q=>ta σ H fun x H1=>∃ c,x=.bl c∧Q (.bl (!c)) H1
theorem pe_one {op} {t:TE} (h:PE X a t):PE X (.BoolOp op [a] pos) t:=fun pins s σ H Q I hw=>BoolOp_one (h pins s σ H Q I hw)
theorem pe_and (ha:PE X a ta) (hb:PE X (.BoolOp .And (b::rest) pos) tb):PE X (.BoolOp .And (a::b::rest) pos) (tAndV ta tb):=by
 intro pins s σ H Q I h
 refine BoolOp_and (thn (ha pins s σ H _ I h) fun v s1 ⟨x,H1,I1,r1,q1⟩=>?_)
 obtain ⟨c,rfl,q1⟩:=q1
 cases r1
 refine wpAny_truthy_bool ?_
 cases c with
 | true=>exact hb pins s1 σ H1 Q I1 q1
 | false=>exact ⟨.bl false,H1,I1,rfl,q1⟩
theorem pe_not (ha:PE X a ta):PE X (.UnaryOp .Not a pos) (tNotV ta):=by
 intro pins s σ H Q I h
 refine UnaryOp_ (thn (ha pins s σ H _ I h) fun v s1 ⟨x,H1,I1,r1,q1⟩=>?_)
 obtain ⟨c,rfl,q1⟩:=q1
 cases r1
 exact not_of (wpAny_truthy_bool ⟨.bl (!c),H1,I1,rfl,q1⟩)
def tIf (t:TT) (ta tb:TE):TE:=fun σ H Q=>t σ H fun c H1=>if c=true then ta σ H1 Q else tb σ H1 Q
theorem pe_ifExp {c:Expr} (hc:PT X c tA) (ha:PE X a ta) (hb:PE X b tb):PE X (.IfExp c a b pos) (tIf tA ta tb):=by
 intro pins s σ H Q I h
 refine wpAny_IfExp (thn (hc pins s σ H _ I h) fun d s1 ⟨H1,I1,q1⟩=>?_)
 cases d with
 | true=>exact ha pins s1 σ H1 Q I1 q1
 | false=>exact hb pins s1 σ H1 Q I1 q1
end
end L2
namespace L2
open PySem PySem.Spec PyProof.Rows
def SqL (K:PySem.W.Frag) (H:Hp) (a:Addr) (xs:List V):Prop:=
 Rd H a (.lst xs)∨
  ∃ (o:Obj) (its:Array Value) (n:Nat),K.lookup a=some o∧o.cls=.type "list"∧o.dict=none∧o.data=.seq its n∧its.size≤sizeLine∧aQ xs its.toList
def SqT (K:PySem.W.Frag) (H:Hp) (a:Addr) (xs:List V):Prop:=
 Rd H a (.tup xs)∨
  ∃ (o:Obj) (its:Array Value) (n:Nat),K.lookup a=some o∧o.cls=.type "tuple"∧o.data=.seq its n∧its.size≤sizeLine∧aQ xs its.toList
def absV:Value→Option V
 | .none=>some .non
 | .bool b=>some (.bl b)
 | .int i _=>some (.int i)
 | .str x _=>some (.str x)
 | .bytes b _=>some (.byt b)
 | .float b _=>some (.flt b)
 | .ref a=>some (.ref a)
 | .type n=>some (.ty n)
 | _=>none
theorem RelV.abs {x:V} {u:Value} (r:RelV x u):absV u=some x:=by
 cases x with
 | non=>cases r;rfl
 | bl _=>cases r;rfl
 | int _=>obtain ⟨t,rfl⟩:=r;rfl
 | str _=>obtain ⟨t,rfl⟩:=r;rfl
 | byt _=>obtain ⟨t,rfl⟩:=r;rfl
 | flt _=>obtain ⟨t,rfl⟩:=r;rfl
 | ref _=>cases r;rfl
 | ty _=>cases r;rfl
theorem RelV.inj {x y:V} {u:Value} (r:RelV x u) (q:RelV y u):x=y:=Option.some.inj (r.abs.symm.trans q.abs)
theorem aQ.inj:∀ {xs ys:List V} {us:List Value},aQ xs us→aQ ys us→xs=ys
 | _,_,_,.nil,.nil=>rfl
 | _,_,_,.cons r t,.cons r' t'=>by rw [r.inj r',aQ.inj t t']
section
variable {X:Cx} {pins:List (Addr×Obj)} {σ:St} {H:Hp} {s:Shared} {a:Addr} {xs ys:List V}
theorem SqL.of {K:PySem.W.Frag} (h:H a=some (.lst xs)):SqL K H a xs:=.inl (.inl h)
theorem SqT.of {K:PySem.W.Frag} (h:H a=some (.tup xs)):SqT K H a xs:=.inl (.inl h)
theorem Inv.list (I:Inv X pins σ H s) (h:SqL X.K H a xs):∃ its:List Value,aQ xs its∧PlainL s.heap a its.toArray∧xs.length≤sizeLine:=by
 rcases h with h | ⟨o,its,n,hk,hc,hd,hs,hz,r⟩
 ·
  obtain ⟨z,its,n,r,e⟩:=h.ok I.hok
  exact ⟨its,r,⟨_,n,e,rfl,rfl,rfl⟩,z⟩
 ·
  refine ⟨its.toList,r,⟨o,n,I.kIn a o hk,hc,hd,by simpa using hs⟩,?_⟩
  have e:=r.length
  simp only [Array.length_toList] at e
  omega
theorem Inv.tuple (I:Inv X pins σ H s) (h:SqT X.K H a xs):∃ its:List Value,aQ xs its∧IsTup s.heap a its.toArray∧xs.length≤sizeLine:=by
 rcases h with h | ⟨o,its,n,hk,hc,hs,hz,r⟩
 ·
  obtain ⟨z,its,r,p⟩:=h.ok I.hok
  exact ⟨its,r,p,z⟩
 ·
  refine ⟨its.toList,r,⟨o,I.kIn a o hk,hc,n,by simpa using hs⟩,?_⟩
  have e:=r.length
  simp only [Array.length_toList] at e
  omega
theorem Inv.list_inj (I:Inv X pins σ H s) (h:SqL X.K H a xs) (h':SqL X.K H a ys):xs=ys:=by
 obtain ⟨its,r,⟨o,n,e,_,_,d⟩,_⟩:=I.list h
 obtain ⟨its',r',⟨o',n',e',_,_,d'⟩,_⟩:=I.list h'
 rw [e] at e';cases e'
 rw [d] at d'
 injection d' with d1 _
 have:its=its':=by simpa using congrArg Array.toList d1
 subst this
 exact r.inj r'
end
abbrev Cx.wish (X:Cx) (E:Value→Shared→Prop):Cx:={ X with xe:=E }
abbrev Cx.nox (X:Cx):Cx:=X.wish fun _ _=>False
theorem Cx.Ok.wish {X:Cx} (ok:X.Ok) (E:Value→Shared→Prop):(X.wish E).Ok:=
 ⟨ok.mod,ok.kind,ok.glob,ok.blt,ok.above,ok.inj,ok.has,ok.cab,ok.hd,ok.frames,ok.stk,ok.exf,ok.bs,ok.bsz,ok.noex,ok.exfs,ok.funs,ok.frf⟩
theorem Cx.Ok.unwish {X:Cx} {E:Value→Shared→Prop} (ok:(X.wish E).Ok):X.Ok:=
 ⟨ok.mod,ok.kind,ok.glob,ok.blt,ok.above,ok.inj,ok.has,ok.cab,ok.hd,ok.frames,ok.stk,ok.exf,ok.bs,ok.bsz,ok.noex,ok.exfs,ok.funs,ok.frf⟩
section
variable {X:Cx} {pins:List (Addr×Obj)} {σ:St} {H:Hp} {s:Shared} {E:Value→Shared→Prop}
theorem Inv.wish (I:Inv X pins σ H s) (E:Value→Shared→Prop):Inv (X.wish E) pins σ H s:=⟨I.ok.wish E,I.os,I.bare,I.base,I.loc,I.cell,I.free,I.freeC,I.pin,I.hok,I.len⟩
theorem Inv.unwish (I:Inv (X.wish E) pins σ H s):Inv X pins σ H s:=⟨I.ok.unwish,I.os,I.bare,I.base,I.loc,I.cell,I.free,I.freeC,I.pin,I.hok,I.len⟩
theorem SP.unwish {D:Ends} {f:Flow} {s':Shared} (h:SP (X.wish E) pins D f s'):SP X pins D f s':=by
 cases f with
 | next=>obtain ⟨σ',H',I,q⟩:=h;exact ⟨σ',H',I.unwish,q⟩
 | brk=>obtain ⟨σ',H',I,q⟩:=h;exact ⟨σ',H',I.unwish,q⟩
 | cont=>obtain ⟨σ',H',I,q⟩:=h;exact ⟨σ',H',I.unwish,q⟩
 | ret u=>obtain ⟨v,σ',H',I,r,q⟩:=h;exact ⟨v,σ',H',I.unwish,r,q⟩
theorem PSs.nox {st:List Stmt} {t:TS} (h:PSs X.nox st t):PSs X st t:=fun pins s σ H D I hw=>
 wpAny_mono (h pins s σ H D (I.wish _) hw) (fun _ _ q=>q.unwish) fun _ _ z=>False.elim z
end
section
variable {X:Cx} {st:Stmt} {rest:List Stmt} {t u:TS} {e:Expr} {te:TE} {pos:Pos}
def tNext:TS:=fun D σ H=>D.nx σ H
def tSeq (t u:TS):TS:=fun D σ H=>t { D with nx:=u D } σ H
theorem pss_nil:PSs X [] tNext:=fun _ _ σ H _ I h=>wpAny_execs_nil ⟨σ,H,I,h⟩
theorem pss_cons (h1:PS X st t) (h2:PSs X rest u):PSs X (st::rest) (tSeq t u):=by
 intro pins s σ H D I h
 refine wpAny_execs_cons (thn (h1 pins s σ H { D with nx:=u D } I h) fun f s1 q=>?_)
 cases f with
 | next=>
  obtain ⟨σ',H',I',q⟩:=q
  exact h2 pins s1 σ' H' D I' q
 | ret v=>exact q
 | brk=>exact q
 | cont=>exact q
theorem pss_one (h1:PS X st t):PSs X [st] t:=by
 intro pins s σ H D I h
 refine wpAny_execs_cons (thn (h1 pins s σ H D I h) fun f s1 q=>?_)
 cases f with
 | next=>exact wpAny_execs_nil q
 | ret v=>exact q
 | brk=>exact q
 | cont=>exact q
theorem Inv.quiet {pins:List (Addr×Obj)} {σ:St} {H:Hp} {s:Shared} (I:Inv X pins σ H s):interactive X.env=false:=by simp [interactive,I.ok.kind]
def tDrop (te:TE):TS:=fun D σ H=>te σ H fun _ H1=>D.nx σ H1
theorem iA (he:PE X e te) (hs:swapsWith e none pos.line X.env=pure false:=by rfl):PS X (.Expr e pos) (tDrop te):=by
 intro pins s σ H D I h
 exact wpAny_Expr_any (thn (he pins s σ H _ I h) fun v s1 ⟨x,H1,I1,r1,q1⟩=>⟨σ,H1,I1,q1⟩) I.quiet hs
def tRet (te:TE):TS:=fun D σ H=>te σ H D.rt
theorem ps_ret (he:PE X e te):PS X (.Return (some e) pos) (tRet te):=by
 intro pins s σ H D I h
 exact wpAny_Return_some (thn (he pins s σ H _ I h) fun v s1 ⟨x,H1,I1,r1,q1⟩=>⟨x,σ,H1,I1,r1,q1⟩)
def tIfS (c:TT) (t u:TS):TS:=fun D σ H=>c σ H fun b H1=>if b=true then t D σ H1 else u D σ H1
theorem ps_if {c:Expr} {a b:List Stmt} {tc:TT} (hc:PT X c tc) (ha:PSs X a t) (hb:PSs X b u):PS X (.If c a b pos) (tIfS tc t u):=by
 intro pins s σ H D I h
 refine wpAny_If (thn (hc pins s σ H _ I h) fun d s1 ⟨H1,I1,q1⟩=>?_)
 cases d with
 | true=>exact ha pins s1 σ H1 D I1 q1
 | false=>exact hb pins s1 σ H1 D I1 q1
end
abbrev TG:=V→St→Hp→(St→Hp→Prop)→Prop
abbrev TGs:=List V→St→Hp→(St→Hp→Prop)→Prop
def PG (X:Cx) (target:Expr) (t:TG):Prop:=
 ∀ (pins:List (Addr×Obj)) (s:Shared) (σ:St) (H:Hp) (v:V) (u:Value) (Q:St→Hp→Prop),Inv X pins σ H s→RelV v u→t v σ H Q→
  wpAny (model X.prog X.w) X.A (assign target X.env u) (fun _ s'=>∃ σ' H',Inv X pins σ' H' s'∧Q σ' H') X.xe s
def PGs (X:Cx) (ts:List Expr) (t:TGs):Prop:=
 ∀ (pins:List (Addr×Obj)) (s:Shared) (σ:St) (H:Hp) (vs:List V) (us:List Value) (Q:St→Hp→Prop),Inv X pins σ H s→aQ vs us→t vs σ H Q→
  wpAny (model X.prog X.w) X.A (assignInOrder ((assignEach ts X.env).map (·.2)) us) (fun _ s'=>∃ σ' H',Inv X pins σ' H' s'∧Q σ' H') X.xe s
abbrev TIp:=V→V→Hp→VK→Prop
def PIp (X:Cx) (op:Operator) (t:TIp):Prop:=
 ∀ (pins:List (Addr×Obj)) (s:Shared) (σ:St) (H:Hp) (x y:V) (v u:Value) (Q:VK),Inv X pins σ H s→RelV x v→RelV y u→t x y H Q→
  wpAny (model X.prog X.w) X.A (inplaceOp op v u) (EP X pins σ Q) X.xe s
section
variable {X:Cx} {pos:Pos}
def lN (i:Nat):TG:=fun v σ H Q=>Q (σ.set i (some v)) H
theorem pg_name {i:Nat} {x:Str} (hN:X.N.Nodup) (hi:X.N[i]?=some x) (hx:Loc X.env.scope x) (hf:X.fn x=true∨X.env.scope.names.lookup x=some .local:=by first | exact .inl rfl | exact .inr rfl | assumption):PG X (.Name x pos) (lN i):=by
 intro pins s σ H v u Q I r h
 exact wpAny_assign_Name (gi I hN hi hx r (fun s' I'=>⟨_,H,I',h⟩) hf)
def gNil:TGs:=fun vs σ H Q=>vs=[]∧Q σ H
def gCons (t:TG) (u:TGs):TGs:=fun vs σ H Q=>∃ v r,vs=v::r∧t v σ H fun σ' H'=>u r σ' H' Q
theorem pgs_nil:PGs X [] gNil:=by
 intro pins s σ H vs us Q I r h
 obtain ⟨e,h⟩:=h
 subst e
 cases r
 exact assignInOrder_nil ⟨σ,H,I,h⟩
theorem pgs_cons {e:Expr} {es:List Expr} {t:TG} {u:TGs} (h1:PG X e t) (h2:PGs X es u)
  (hs:(assignEach (e::es) X.env).map (·.2)=assign e X.env::(assignEach es X.env).map (·.2):=by rfl):PGs X (e::es) (gCons t u):=by
 intro pins s σ H vs us Q I r h
 obtain ⟨v,vr,e1,h⟩:=h
 subst e1
 cases r with
 | cons r rr=>
  rw [hs]
  refine assignInOrder_cons (thn (h1 pins s σ H _ _ _ I r h) fun _ s1 ⟨σ1,H1,I1,q1⟩=>?_)
  exact h2 pins s1 σ1 H1 _ _ Q I1 rr q1
def gTup (K:PySem.W.Frag) (n:Nat) (t:TGs):TG:=fun v σ H Q=>∃ a xs,v=.ref a∧SqT K H a xs∧xs.length=n∧t xs σ H Q
theorem pg_tup {es:List Expr} {k:Nat} {t:TGs} {n:Nat} (hc:X.calm=true) (h:PGs X es t)
  (hn:(assignEach es X.env).length=n:=by rfl) (hst:(assignEach es X.env).findIdx? (·.1)=none:=by rfl):PG X (.Tuple es k pos) (gTup X.K n t):=by
 intro pins s σ H v u Q I r hw
 obtain ⟨a,xs,e1,hq,hl,hw⟩:=hw
 subst e1
 cases r
 obtain ⟨its,rv,ht,hz⟩:=I.tuple hq
 refine assign_Tuple_tuple (I.ok.hd hc) ht (by simp [hn,←hl,rv.length]) hst fun h' hx=>?_
 have I1:Inv X pins σ H { s with heap:=h' }:=I.kept (t':=s.toks) fun b o e=>hx b o (Nat.ne_of_lt (Heap.lt_size e)) e
 exact h pins _ σ H xs _ Q I1 (by simpa using rv) hw
def tAsg (te:TE) (g:TG):TS:=fun D σ H=>te σ H fun x H1=>g x σ H1 D.nx
theorem ps_asg {tg e:Expr} {te:TE} {g:TG} (he:PE X e te) (hg:PG X tg g) (hs:swapsWithSole [tg] e pos.line X.env=pure false:=by rfl) (hw:swappedStores [tg] e X.env=pure none:=by rfl)
  (h1:(assignEach [tg] X.env).map (·.2)=[assign tg X.env]:=by rfl):PS X (.Assign [tg] e pos) (tAsg te g):=by
 intro pins s σ H D I h
 refine wpAny_Assign_stores (thn (he pins s σ H _ I h) fun v s1 ⟨x,H1,I1,r1,q1⟩=>?_) hs hw
 rw [h1]
 exact thn (hg pins s1 σ H1 x v _ I1 r1 q1) fun _ s2 q=>q
theorem ps_set {i:Nat} {x:Str} {e:Expr} {te:TE} {pos':Pos} (hN:X.N.Nodup) (hi:X.N[i]?=some x) (hx:Loc X.env.scope x) (he:PE X e te) (hs:swapsWith e (some (.Name x pos')) pos.line X.env=pure false:=by rfl) (hf:X.fn x=true∨X.env.scope.names.lookup x=some .local:=by first | exact .inl rfl | exact .inr rfl | assumption) :
  PS X (.Assign [.Name x pos'] e pos) (tAsg te (lN i)):=by
 intro pins s σ H D I h
 refine wpAny_Assign_Name (thn (he pins s σ H _ I h) fun v s1 ⟨y,H1,I1,r1,q1⟩=>?_) hs
 exact gi I1 hN hi hx r1 (fun s2 I2=>⟨_,H1,I2,q1⟩) hf
def tPar (i j:Nat) (ta:TA):TS:=fun D σ H=>ta σ H fun vs H1=>∃ v w,vs=[v,w]∧D.nx ((σ.set i (some v)).set j (some w)) H1
theorem ps_par {i j:Nat} {x y:Str} {a b:Expr} {ta:TA} {px py pt:Pos} {kt k2 pt2} (hc:X.calm=true) (hN:X.N.Nodup) (hi:X.N[i]?=some x) (hj:X.N[j]?=some y) (hij:i≠j)
  (hx:X.env.scope.names.lookup x=some .local) (hy:X.env.scope.names.lookup y=some .local) (ha:PA X [a,b] ta)
  (hw:swappedStores [.Tuple [.Name x px,.Name y py] kt pt] (.Tuple [a,b] k2 pt2) X.env=pure (some [x,y]))
  (hs:swapsWithSole [.Tuple [.Name x px,.Name y py] kt pt] (.Tuple [a,b] k2 pt2) pos.line X.env=pure false:=by rfl) :
  PS X (.Assign [.Tuple [.Name x px,.Name y py] kt pt] (.Tuple [a,b] k2 pt2) pos) (tPar i j ta):=by
 intro pins s σ H D I h
 rw [exec_Assign_arm]
 refine wpAny_bind (wpAny_standAt ?_)
 rw [hs]
 refine wpAny_bind (wpAny_pure ?_)
 rw [if_neg (by decide)]
 refine wpAny_bind (Tuple_ (thn (ha _ pins s σ H _ I h) fun us s1 ⟨vs,H1,I1,r1,q1⟩=>?_))
 obtain ⟨v,w,e1,q1⟩:=q1
 subst e1
 obtain ⟨u1,u2,rfl,rv,rw'⟩ : ∃ u1 u2,us=[u1,u2]∧RelV v u1∧RelV w u2:=by
  cases r1 with
  | cons p q=>
   cases q with
   | cons p' q'=>
    cases q'
    exact ⟨_,_,rfl,p,p'⟩
 refine wpAny_newObj_type ?_ (by show 2≤sizeLine;decide)
 have I2:Inv X pins σ H1 { s1 with heap:=s1.heap.push { cls:=.type "tuple",data:=.seq [u1,u2].toArray } }:=I1.kept (t':=s1.toks) fun b o e=>Heap.get?_push_of_some _ e
 rw [hw]
 refine wpAny_bind (wpAny_pure ?_)
 show wpAny (model X.prog X.w) X.A (do rule "assign.swapped-stores";let items ←unpackItems (.ref s1.heap.objs.size) 2 none;assignInOrder [fun v=>bindName X.env y v,fun v=>bindName X.env x v] items.reverse;pure Flow.next) _ _ _
 refine wpAny_bind (wpAny_rule (wpAny_bind (unpackItems_tuple (items:=#[u1,u2]) (I.ok.hd hc) (IsTup.new s1.heap _) fun h' hx'=>?_)))
 have I3:=I2.kept (h':=h') (t':=s1.toks) fun b o e=>hx' b o (Nat.ne_of_lt (Heap.lt_size e)) e
 show wpAny _ _ (assignInOrder [fun v=>bindName X.env y v,fun v=>bindName X.env x v] [u2,u1] >>= fun _=>pure Flow.next) _ _ _
 refine wpAny_bind (assignInOrder_cons (wpAny_bindName (gi I3 hN hj (.inl hy) rw' (fun s2 I4=>?_) (.inr hy))))
 refine assignInOrder_cons (wpAny_bindName (gi I4 hN hi (.inl hx) rv (fun s3 I5=>assignInOrder_nil (wpAny_pure ?_)) (.inr hx)))
 rw [List.set_comm _ _ (Ne.symm hij)] at I5
 exact ⟨_,H1,I5,q1⟩
def tAug (i:Nat) (te:TE) (ti:TIp):TS:=fun D σ H=>∃ x,σ[i]?=some (some x)∧te σ H fun y H1=>ti x y H1 fun z H2=>D.nx (σ.set i (some z)) H2
theorem ps_aug {i:Nat} {x:Str} {e:Expr} {te:TE} {op:Operator} {ti:TIp} {pos':Pos} (hN:X.N.Nodup) (hi:X.N[i]?=some x) (hx:Loc X.env.scope x) (he:PE X e te) (ho:PIp X op ti) (hf:X.fn x=true∨X.env.scope.names.lookup x=some .local:=by first | exact .inl rfl | exact .inr rfl | assumption) :
  PS X (.AugAssign (.Name x pos') op e pos) (tAug i te ti):=by
 intro pins s σ H D I h
 obtain ⟨v,e1,h⟩:=h
 obtain ⟨m,hn,hl⟩:=I.loc
 have vis:Vis X.env.scope x:=by rcases hx with k | k;exact .inl k;exact .inr (.inl k)
 obtain ⟨u,r,l⟩:=hl i x v hi e1 vis
 refine wpAny_AugAssign_Name ?_
 have go:wpAny (model X.prog X.w) X.A (eval e X.env) (fun w s₂=>wpAny (model X.prog X.w) X.A (inplaceOp op u w) (fun r s₃=>wpAny (model X.prog X.w) X.A (storeName X.env x r) (fun _=>SP X pins D .next) X.xe s₃) X.xe s₂) X.xe s:=by
  refine thn (he pins s σ H _ I h) fun w s1 ⟨y,H1,I1,r1,q1⟩=>?_
  refine thn (ho pins s1 σ H1 v y u w _ I1 r r1 q1) fun z s2 ⟨zv,H2,I2,r2,q2⟩=>?_
  exact gi I2 hN hi hx r2 (fun s3 I3=>⟨_,H2,I3,q2⟩) hf
 rcases l with ⟨hk,hm⟩ | ⟨hk,c,hc,hcell⟩
 ·
  exact wpAny_loadName_local I.ok.kind hk hn hm go
 ·
  rcases hk with hk | hk
  ·
   exact wpAny_loadName_cell I.ok.kind hk hc hcell go
  ·
   rcases hx with k | k
   ·
    have:X.env.scope.names.lookup x=some .free:=hk
    rw [k] at this;cases this
   ·
    have:X.env.scope.names.lookup x=some .free:=hk
    rw [k] at this;cases this
def ipI (f:Int→Int→Int):TIp:=fun x y H Q=>∃ i j,x=.int i∧y=.int j∧Q (.int (f i j)) H
theorem ip_add:PIp X .Add (ipI fun i j=>i+j):=by
 intro pins s σ H x y v u Q I r1 r2 h
 obtain ⟨i,j,e1,e2,q⟩:=h
 subst e1;subst e2
 obtain ⟨t,rfl⟩:=r1
 obtain ⟨t',rfl⟩:=r2
 exact iadd_int ⟨.int _,H,I.tok _,⟨_,rfl⟩,q⟩
end
section
variable {X:Cx} {pos:Pos}
def tWhile (c:TT) (tb:TS):TS:=fun D σ H=>∃ W:Nat→St→Hp→Prop,(∃ m,W m σ H)∧∀ m σ H,W m σ H→
 c σ H fun b H1=>if b=true then ∃ N:St→Hp→Prop,(∀ σ' H',N σ' H'→∃ m',m'<m∧W m' σ' H')∧tb { D with nx:=N,ct:=N,bk:=D.nx } σ H1 else D.nx σ H1
theorem ps_while {c:Expr} {body:List Stmt} {tc:TT} {tb:TS} (hp:PassesOwn (model X.prog X.w) X.A X.env X.xe) (hc:PT X c tc) (hb:PSs X body tb):PS X (.While c body [] pos) (tWhile tc tb):=by
 intro pins s σ H D I h
 obtain ⟨W,⟨m0,w0⟩,turn⟩:=h
 refine wpAny_While (codeAny_whileLoop (fun n s'=>∃ σ' H',Inv X pins σ' H' s'∧W n σ' H') ?_ m0 ⟨σ,H,I,w0⟩)
 rintro n s1 ⟨σ1,H1,I1,w1⟩
 refine wpAny_passesOwn hp (thn (hc pins s1 σ1 H1 _ I1 (turn n σ1 H1 w1)) fun b s2 ⟨H2,I2,q2⟩=>?_)
 cases b with
 | true=>
  obtain ⟨N,hN,q2⟩:=q2
  rw [if_pos rfl]
  refine wpAny_passesOwn hp (thn (hb pins s2 σ1 H2 _ I2 q2) fun f s3 q3=>?_)
  cases f with
  | next=>
   obtain ⟨σ3,H3,I3,n3⟩:=q3
   obtain ⟨m',hm,w3⟩:=hN σ3 H3 n3
   exact ⟨m',hm,σ3,H3,I3,w3⟩
  | cont=>
   obtain ⟨σ3,H3,I3,n3⟩:=q3
   obtain ⟨m',hm,w3⟩:=hN σ3 H3 n3
   exact ⟨m',hm,σ3,H3,I3,w3⟩
  | brk=>exact q3
  | ret v=>exact q3
 | false=>
  rw [if_neg Bool.false_ne_true]
  exact wpAny_execs_nil ⟨σ1,H2,I2,q2⟩
end
structure It where
 go:Nat→Hp→Prop
 yld:Nat→Hp→V→Hp→Prop
 stop:Nat→Hp→Prop
def FpOk (X:Cx) (pins:List (Addr×Obj)) (H:Hp) (b:Addr):Prop:=
 H b=none∧b≠X.env.locals∧b∉X.fs∧(b∈X.ex∨X.s₀.heap.objs.size≤b)∧(∀ x c,X.env.cells.lookup x=some c→c≠b)∧∀ p∈X.pn++pins,p.1≠b
theorem Inv.fpOk {X:Cx} {pins:List (Addr×Obj)} {σ:St} {H H':Hp} {s:Shared} {b:Addr} (I:Inv X pins σ H s) (hb:s.heap.objs.size≤b) (hn:H' b=none):FpOk X pins H' b:=by
 refine ⟨hn,Nat.ne_of_gt (Nat.lt_of_lt_of_le I.lt hb),I.nofs hb,.inr (Nat.le_trans I.sz hb),fun x c e z=>?_,fun p hp z=>?_⟩
 ·
  obtain ⟨v,q⟩:=I.cell x c e
  exact absurd (Nat.lt_of_lt_of_le q.lt (by rw [z];exact hb)) (Nat.lt_irrefl _)
 ·
  exact absurd (Nat.lt_of_lt_of_le (Heap.lt_size (I.pin p hp).1) (by rw [z];exact hb)) (Nat.lt_irrefl _)
structure Turn (P:Program) (w:World) (K:PySem.W.Frag) (tg:Expr) (J:It) (fp:List Addr) (it:Addr) (tn:Nat→Heap→Prop):Prop where
 mem:it∈fp
 obj:∀ i h,tn i h→∀ b∈fp,∃ o,h.get? b=some o∧∀ v,o.data≠.cell v
 keep:∀ i h h',tn i h→(∀ b∈fp,∀ o,h.get? b=some o→h'.get? b=some o)→tn i h'
 item:∀ (X:Cx),X.prog=P→X.w=w→X.K=K→X.calm=true→∀ (i:Nat) (pins:List (Addr×Obj)) (s:Shared) (σ:St) (H:Hp) (E:Value→Shared→Prop),Inv X pins σ H s→(∀ b∈fp,FpOk X pins H b)→tn i s.heap→J.go i H→
  wpAny (model P w) X.A (pyNext (.ref it)) (fun r s1=>∃ u,r=some u∧
   wpAny (model P w) X.A (letOwnedTupleGo tg (.ref it) u) (fun _ s2=>∃ x H',Inv X pins σ H' s2∧RelV x u∧J.yld i H x H'∧tn (i+1) s2.heap∧∀ b∈fp,H' b=none) E s1) E s
 done:∀ (X:Cx),X.prog=P→X.w=w→X.K=K→X.calm=true→∀ (i:Nat) (pins:List (Addr×Obj)) (s:Shared) (σ:St) (H:Hp) (E:Value→Shared→Prop),Inv X pins σ H s→(∀ b∈fp,FpOk X pins H b)→tn i s.heap→J.stop i H→
  wpAny (model P w) X.A (pyNext (.ref it)) (fun r s1=>r=none∧Inv X pins σ H s1) E s
 self:∀ (A:Around) (i:Nat) (s:Shared) (Q:Value→Shared→Prop) (E:Value→Shared→Prop),tn i s.heap→Q (.ref it) s→wpAny (model P w) A (pyIter (.ref it)) Q E s
abbrev TI:=St→Hp→(It→Hp→Prop)→Prop
def PIE (X:Cx) (pins:List (Addr×Obj)) (σ:St) (tg:Expr) (R:It→Hp→Prop) (itv:Value) (s2:Shared):Prop:=
 ∃ (it:Addr) (fp:List Addr) (tn:Nat→Heap→Prop) (J:It) (H':Hp),itv=.ref it∧Inv X pins σ H' s2∧Turn X.prog X.w X.K tg J fp it tn∧tn 0 s2.heap∧(∀ b∈fp,FpOk X pins H' b)∧R J H'
def PI (X:Cx) (tg iter:Expr) (wi:TI):Prop:=
 ∀ (pins:List (Addr×Obj)) (s:Shared) (σ:St) (H:Hp) (R:It→Hp→Prop),Inv X pins σ H s→wi σ H R→
  wpAny (model X.prog X.w) X.A (eval iter X.env) (fun v s1=>wpAny (model X.prog X.w) X.A (pyIter v) (PIE X pins σ tg R) X.xe s1) X.xe s
theorem go_of {M:Model} {A:Around} {E:Value→Shared→Prop} {s:Shared} {tg:Expr} {it:Addr} {u:Value} {o:Obj} {n:String} {vs:Array Value} {Q:Unit→Shared→Prop} (ho:s.heap.get? it=some o) (hc:o.cls=.type n) (hd:o.data=.fields vs)
    (hn:["enumerate", "zip", "dict_itemiterator", "dict_reverseitemiterator", "odict_iterator", "itertools.zip_longest", "itertools.pairwise"].contains n=false) (hQ:Q () s):wpAny M A (letOwnedTupleGo tg (.ref it) u) Q E s:=by
  unfold letOwnedTupleGo
  cases tg <;> first
    | exact wpAny_pure hQ
    | (cases u <;> first
        | exact wpAny_pure hQ
        | (refine wpAny_bind (wpAny_load ho ?_)
           rw [hc,hd]
           show wpAny M A (if (["enumerate", "zip", "dict_itemiterator", "dict_reverseitemiterator", "odict_iterator", "itertools.zip_longest", "itertools.pairwise"].contains n&&vs[0]?==some (rawInt _))=true then _ else _) Q E s
           rw [if_neg (by intro h;rw [hn,Bool.false_and] at h;cases h)]
           exact wpAny_pure hQ))
def Itl (K:PySem.W.Frag) (a:Addr):It:=
 ⟨fun i H=>∃ xs x,SqL K H a xs∧xs[i]?=some x,fun i H x H'=>H'=H∧∀ xs,SqL K H a xs→xs[i]?=some x,fun i H=>∃ xs,SqL K H a xs∧xs.length≤i⟩
def Itr (lo:Int) (n:Nat):It:=⟨fun i _=>i<n,fun i H x H'=>H'=H∧x=.int (lo+i),fun i _=>n≤i⟩
theorem turn_list {P:Program} {w:World} {K:PySem.W.Frag} {tg:Expr} (a it:Addr):Turn P w K tg (Itl K a) [it] it (fun i h=>h.IsListIter it a i) where
 mem:=by simp
 obj:=fun i h st b hb=>by
  have e:b=it:=by simpa using hb
  subst e
  obtain ⟨o,e,c,d⟩:=st
  exact ⟨o,e,fun v z=>by rw [d] at z;cases z⟩
 keep:=fun i h h' st k=>st.at fun o e=>k it (by simp) o e
 item:=by
  intro X hP hw hK hc i pins s σ H E I hf st hg
  subst hP hw hK
  obtain ⟨xs,x,hq,hx⟩:=hg
  obtain ⟨its,rv,p,hz⟩:=I.list hq
  obtain ⟨u,hu,ru⟩:=rv.get hx
  obtain ⟨f0,f1,f2,f3,f4,f5⟩:=hf it (by simp)
  refine wpAny_pyNext_list_item st p.isList (x:=u) (by simpa using hu) fun h' st' sb=>?_
  have I1:Inv X pins σ H { s with heap:=h' }:=I.turned (t':=s.toks) (fun b o hb e=>(sb.2 b hb).trans e) f0 f1 f3 f4 f5
  obtain ⟨o,e,c,d⟩:=id st'
  exact ⟨u,rfl,go_of (s:={ s with heap:=h' }) e c d (by decide) ⟨x,H,I1,ru,⟨rfl,fun ys hy=>by rw [I.list_inj hy hq];exact hx⟩,st',fun b hb=>(hf b hb).1⟩⟩
 done:=by
  intro X hP hw hK hc i pins s σ H E I hf st hg
  subst hP hw hK
  obtain ⟨xs,hq,hx⟩:=hg
  obtain ⟨its,rv,p,hz⟩:=I.list hq
  obtain ⟨f0,f1,f2,f3,f4,f5⟩:=hf it (by simp)
  have hl:=rv.length
  exact wpAny_pyNext_list_end (I.ok.hd hc) st p.isList (by simp;omega) fun h' eb=>⟨rfl,I.turned (t':=s.toks) (fun b o hb e=>eb b o hb e) f0 f1 f3 f4 f5⟩
 self:=fun _ _ _ _ _ st h=>wpAny_pyIter_listiter st h
theorem o6 {P:Program} {w:World} {K:PySem.W.Frag} {tg:Expr} (it:Addr) (lo:Int) (n:Nat):Turn P w K tg (Itr lo n) [it] it (fun i h=>IsRangeIter h it (lo+(i:Nat)*1) ((n:Int)-(i:Nat)) 1) where
 mem:=by simp
 obj:=fun i h st b hb=>by
  have e:b=it:=by simpa using hb
  subst e
  exact ⟨_,st,fun v z=>by
   have z':Data.fields _=Data.cell v:=z
   cases z'⟩
 keep:=fun i h h' st k=>k it (by simp) _ st
 item:=by
  intro X hP hw hK hc i pins s σ H E I hf st hg
  subst hP hw hK
  obtain ⟨f0,f1,f2,f3,f4,f5⟩:=hf it (by simp)
  have W:=Walks.range (prog:=X.prog) (w:=X.w) (I.ok.hd hc) it lo 1 n
  refine W.item i s _ _ hg st fun v h' tk hv st' kk=>?_
  obtain ⟨t,rfl⟩:=hv
  have I1:Inv X pins σ H { s with heap:=h',toks:=tk }:=I.turned (fun b o hb e=>kk b o (by simpa using hb) e) f0 f1 f3 f4 f5
  refine ⟨_,rfl,go_of (s:={ s with heap:=h',toks:=tk }) (n:="range_iterator") st' rfl rfl (by decide) ⟨.int (lo+i),H,I1,⟨t,?_⟩,⟨rfl,rfl⟩,st',fun b hb=>(hf b hb).1⟩⟩
  rw [Int.mul_one]
 done:=by
  intro X hP hw hK hc i pins s σ H E I hf st hg
  subst hP hw hK
  obtain ⟨f0,f1,f2,f3,f4,f5⟩:=hf it (by simp)
  exact wpAny_pyNext_range_end (I.ok.hd hc) st (by have:n≤i:=hg;omega) fun h' eb=>⟨rfl,I.turned (t':=s.toks) (fun b o hb e=>eb b o hb e) f0 f1 f3 f4 f5⟩
 self:=fun _ _ _ _ _ st h=>wpAny_pyIter_rangeiter st h
end L2
namespace L2
open PySem PySem.Spec PyProof.Rows
section
variable {X:Cx} {tg:Expr}
def iList (K:PySem.W.Frag) (tl:TE):TI:=fun σ H R=>tl σ H fun x H1=>∃ a,x=.ref a∧(∃ xs,SqL K H1 a xs)∧R (Itl K a) H1
theorem pi_list {l:Expr} {tl:TE} (hl:PE X l tl):PI X tg l (iList X.K tl):=by
 intro pins s σ H R I h
 refine thn (hl pins s σ H _ I h) fun v s1 ⟨x,H1,I1,r1,q1⟩=>?_
 obtain ⟨a,e,⟨xs,hq⟩,q⟩:=q1
 subst e
 cases r1
 obtain ⟨its,rv,p,hz⟩:=I1.list hq
 refine wpAny_pyIter_list p.isList ?_
 refine ⟨s1.heap.objs.size,[s1.heap.objs.size],_,_,H1,rfl,I1.kept (t':=s1.toks) fun b o e=>Heap.get?_push_of_some _ e,turn_list a _,⟨_,Heap.get?_push_size _ rfl,rfl,rfl⟩,fun b hb=>?_,q⟩
 have e:b=s1.heap.objs.size:=by simpa using hb
 subst e
 exact I1.fpOk (Nat.le_refl _) (I1.hok.fresh (Nat.le_refl _))
theorem range_it {pins:List (Addr×Obj)} {σ:St} {H:Hp} {s:Shared} {R:It→Hp→Prop} {E:Value→Shared→Prop} {lo hi:Int} {t u v:Tok} {tk:Nat} (I:Inv X pins σ H s) (h1:-(2 ^ 62)≤lo) (h2:lo<2 ^ 62) (h3:-(2 ^ 62)≤hi) (h4:hi<2 ^ 62)
  (q:R (Itr lo (hi-lo).toNat) H):wpAny (model X.prog X.w) X.A (pyIter (.ref s.heap.objs.size)) (PIE X pins σ tg R) E { s with heap:=s.heap.push { cls:=.type "range",data:=.fields #[.int lo t,.int hi u,.int 1 v] },toks:=tk }:=by
 refine wpAny_pyIter_range (IsRange.new ..) (small_one h1 h2 h3 h4) ?_
 have I1:Inv X pins σ H { s with heap:=s.heap.push { cls:=.type "range",data:=.fields #[.int lo t,.int hi u,.int 1 v] },toks:=tk }:=I.kept fun b o e=>Heap.get?_push_of_some _ e
 refine ⟨(s.heap.push { cls:=.type "range",data:=.fields #[.int lo t,.int hi u,.int 1 v] }).objs.size,[(s.heap.push { cls:=.type "range",data:=.fields #[.int lo t,.int hi u,.int 1 v] }).objs.size],_,_,H,rfl,
  I1.kept (t':=tk) fun b o e=>Heap.get?_push_of_some _ e,o6 _ lo (hi-lo).toNat,?_,fun b hb=>?_,q⟩
 ·
  have e1:lo+((0:Nat):Int)*1=lo:=by simp
  have e2:(((hi-lo).toNat:Nat):Int)-((0:Nat):Int)=Builtin.Range.rangeSize lo hi 1:=by rw [rangeSize_one];split <;> omega
  show IsRangeIter _ _ (lo+((0:Nat):Int)*1) ((((hi-lo).toNat:Nat):Int)-((0:Nat):Int)) 1
  rw [e1,e2]
  exact Heap.get?_push_size _ rfl
 ·
  have e:b=(s.heap.push { cls:=.type "range",data:=.fields #[.int lo t,.int hi u,.int 1 v] }).objs.size:=by simpa using hb
  subst e
  exact I1.fpOk (Nat.le_refl _) (I1.hok.fresh (Nat.le_refl _))
def iRng1 (ta:TA):TI:=fun σ H R=>ta σ H fun vs H1=>∃ j:Int,vs=[.int j]∧-(2 ^ 62)≤j∧j<2 ^ 62∧R (Itr 0 j.toNat) H1
theorem pi_range1 {a:Expr} {ta:TA} {p pos:Pos} (hg:Gl X "range") (hm:X.mg "range" = none) (ha:PA X [a] ta) (hs:starEach [a] X.env=[(false,eval a X.env)]:=by rfl):PI X tg (.Call (.Name "range" p) [a] [] pos) (iRng1 ta):=by
 intro pins s σ H R I h
 refine Call_ (ib I hg hm boot_range (PyProof.Rows.callWith_type1 (thn (ha pos pins s σ H _ I h) fun us s1 ⟨vs,H1,I1,r1,q1⟩=>?_) hs rfl))
 obtain ⟨j,e,q1,q2,q⟩:=q1
 subst e
 cases r1 with
 | cons r rr=>
  cases rr
  obtain ⟨t,rfl⟩:=r
  exact call_range_1 (range_it I1 (by omega) (by omega) q1 q2 (by simpa using q))
def tFor (wi:TI) (g:TG) (tb:TS):TS:=fun D σ H=>wi σ H fun J H1=>∃ W:Nat→Nat→St→Hp→Prop,(∃ m,W 0 m σ H1)∧∀ i m σ H,W i m σ H→
 (J.stop i H∧D.nx σ H)∨(J.go i H∧∃ N:St→Hp→Prop,(∀ σ' H',N σ' H'→∃ m',m'<m∧W (i+1) m' σ' H')∧∀ x H',J.yld i H x H'→g x σ H' fun σ2 H2=>tb { D with nx:=N,ct:=N,bk:=D.nx } σ2 H2)
def kI (fp:List Addr) (h:Heap):List (Addr×Obj):=fp.filterMap fun b=>(h.get? b).map fun o=>(b,o)
theorem fJ {fp:List Addr} {h:Heap} {b:Addr} {o:Obj} (hb:b∈fp) (e:h.get? b=some o):(b,o)∈kI fp h:=List.mem_filterMap.mpr ⟨b,hb,by rw [e];rfl⟩
theorem of_pinsAt {fp:List Addr} {h:Heap} {p:Addr×Obj} (hp:p∈kI fp h):p.1∈fp∧h.get? p.1=some p.2:=by
 obtain ⟨b,hb,e⟩:=List.mem_filterMap.mp hp
 cases q:h.get? b with
 | none=>rw [q] at e;cases e
 | some o=>
  rw [q] at e
  have e':(b,o)=p:=Option.some.inj e
  subst e'
  exact ⟨hb,q⟩
theorem Inv.pinned {pins:List (Addr×Obj)} {σ:St} {H:Hp} {s:Shared} {fp:List Addr} (I:Inv X pins σ H s) (hf:∀ b∈fp,FpOk X pins H b) (ho:∀ b∈fp,∃ o,s.heap.get? b=some o∧∀ v,o.data≠.cell v):Inv X (pins++kI fp s.heap) σ H s:=
 I.pins_of fun p hp=>(List.mem_append.mp hp).elim (fun z=>I.pin p (List.mem_append_right _ z)) fun z=>by
  obtain ⟨hb,e⟩:=of_pinsAt z
  obtain ⟨f0,f1,f2,_⟩:=hf p.1 hb
  obtain ⟨o,e',d⟩:=ho p.1 hb
  rw [e] at e';cases e'
  exact ⟨e,f0,f1,f2,d⟩
theorem Inv.unpinned {pins pl:List (Addr×Obj)} {σ:St} {H:Hp} {s:Shared} (I:Inv X (pins++pl) σ H s):Inv X pins σ H s:=I.pins_of fun p hp=>I.pin p (List.mem_append_right _ (List.mem_append_left _ hp))
theorem ps_for {iter:Expr} {body:List Stmt} {wi:TI} {g:TG} {tb:TS} {pos:Pos} (hp:PassesOwn (model X.prog X.w) X.A X.env X.xe) (hc:X.calm=true) (hi:PI X tg iter wi) (hg:PG X tg g) (hb:PSs X body tb)
  (hs:∀ x,foldedSetIterable iter X.env x=pure x:=by intro _;rfl):PS X (.For tg iter body [] pos) (tFor wi g tb):=by
 intro pins s σ H D I h
 refine wpAny_For (thn (hi pins s σ H _ I h) fun v s1 h1=>thn h1 fun itv s2 h2=>?_) hs
 obtain ⟨it,fp,tn,J,H2,e,I2,T,st2,f2,W,⟨m0,w0⟩,turn⟩:=h2
 subst e
 have stat:∀ {H':Hp},(∀ b∈fp,H' b=none)→∀ b∈fp,FpOk X pins H' b:=fun hn b hb=>⟨hn b hb,(f2 b hb).2⟩
 refine codeAny_forLoop_any (fun n s'=>∃ i σ' H',Inv X pins σ' H' s'∧tn i s'.heap∧(∀ b∈fp,H' b=none)∧W i n σ' H') ?_ m0 ⟨0,σ,H2,I2,st2,fun b hb=>(f2 b hb).1,w0⟩
 rintro n s3 ⟨i,σ3,H3,I3,st3,fr3,w3⟩
 rcases turn i n σ3 H3 w3 with ⟨stop,qn⟩ | ⟨go,N,hN,step⟩
 ·
  refine wpAny_passesOwn hp (thn (T.done X rfl rfl rfl hc i pins s3 σ3 H3 X.xe I3 (stat fr3) st3 stop) fun r s4 ⟨hr,I4⟩=>?_)
  subst hr
  exact wpAny_execs_nil ⟨σ3,H3,I4,qn⟩
 ·
  refine wpAny_passesOwn hp (thn (T.item X rfl rfl rfl hc i pins s3 σ3 H3 X.xe I3 (stat fr3) st3 go) fun r s4 ⟨u,hr,h4⟩=>?_)
  subst hr
  refine wpAny_passesOwn hp (thn h4 fun _ s5 ⟨x,H5,I5,r5,y5,st5,fr5⟩=>?_)
  have I5':=I5.pinned (stat fr5) (T.obj _ _ st5)
  refine wpAny_passesOwn hp (thn (hg _ s5 σ3 H5 x u _ I5' r5 (step x H5 y5)) fun _ s6 ⟨σ6,H6,I6,q6⟩=>?_)
  refine wpAny_passesOwn hp (thn (hb _ s6 σ6 H6 _ I6 q6) fun f s7 q7=>?_)
  have again:∀ {σ7:St} {H7:Hp},Inv X (pins++kI fp s5.heap) σ7 H7 s7→N σ7 H7→∃ m,m<n∧∃ i σ' H',Inv X pins σ' H' s7∧tn i s7.heap∧(∀ b∈fp,H' b=none)∧W i m σ' H':=fun {σ7 H7} I7 n7=>by
   obtain ⟨m',hm,w7⟩:=hN σ7 H7 n7
   refine ⟨m',hm,i+1,σ7,H7,I7.unpinned,T.keep _ _ _ st5 fun b hb o e=>(I7.pin (b,o) (List.mem_append_right _ (List.mem_append_right _ (fJ hb e)))).1,fun b hb=>?_,w7⟩
   obtain ⟨o,e,d⟩:=T.obj _ _ st5 b hb
   exact (I7.pin (b,o) (List.mem_append_right _ (List.mem_append_right _ (fJ hb e)))).2.1
  cases f with
  | next=>obtain ⟨σ7,H7,I7,n7⟩:=q7;exact again I7 n7
  | cont=>obtain ⟨σ7,H7,I7,n7⟩:=q7;exact again I7 n7
  | brk=>obtain ⟨σ7,H7,I7,q7⟩:=q7;exact ⟨σ7,H7,I7.unpinned,q7⟩
  | ret v=>obtain ⟨x7,σ7,H7,I7,r7,q7⟩:=q7;exact ⟨x7,σ7,H7,I7.unpinned,r7,q7⟩
end
end L2
namespace L2
open PySem PySem.Spec PyProof.Rows
abbrev R2:=V→V→Hp→VK→Prop
def OpR (X:Cx) (f:Value→Value→Sem Value) (r:R2):Prop:=
 ∀ (pins:List (Addr×Obj)) (s:Shared) (σ:St) (H:Hp) (x y:V) (v u:Value) (Q:VK),Inv X pins σ H s→RelV x v→RelV y u→r x y H Q→
  wpAny (model X.prog X.w) X.A (f v u) (EP X pins σ Q) X.xe s
def UnR (X:Cx) (f:Value→Sem Value) (r:V→Hp→VK→Prop):Prop:=
 ∀ (pins:List (Addr×Obj)) (s:Shared) (σ:St) (H:Hp) (x:V) (v:Value) (Q:VK),Inv X pins σ H s→RelV x v→r x H Q→
  wpAny (model X.prog X.w) X.A (f v) (EP X pins σ Q) X.xe s
def cz (X:Cx) (f:Value) (r:List V→Hp→VK→Prop):Prop:=
 ∀ (pins:List (Addr×Obj)) (s:Shared) (σ:St) (H:Hp) (xs:List V) (us:List Value) (Q:VK),Inv X pins σ H s→aQ xs us→r xs H Q→
  wpAny (model X.prog X.w) X.A (call f us) (EP X pins σ Q) X.xe s
def tOp (r:R2) (ta tb:TE):TE:=fun σ H Q=>ta σ H fun x H1=>tb σ H1 fun y H2=>r x y H2 Q
def tUn (r:V→Hp→VK→Prop) (ta:TE):TE:=fun σ H Q=>ta σ H fun x H1=>r x H1 Q
def rI (C:Int→Int→Prop) (g:Int→Int→V):R2:=fun x y H Q=>∃ i j,x=.int i∧y=.int j∧C i j∧Q (g i j) H
def rI0 (g:Int→Int→V):R2:=fun x y H Q=>∃ i j,x=.int i∧y=.int j∧Q (g i j) H
def rU (g:Int→V):V→Hp→VK→Prop:=fun x H Q=>∃ i,x=.int i∧Q (g i) H
section
variable {X:Cx} {a b c:Expr} {ta tb tc:TE} {pos:Pos}
theorem binT (ha:PE X a ta) (hb:PE X b tb) {pins:List (Addr×Obj)} {s:Shared} {σ:St} {H:Hp} {R:V→V→Hp→Prop} (I:Inv X pins σ H s)
  (h:ta σ H fun x H1=>tb σ H1 fun y H2=>R x y H2) {Q:Value→Shared→Prop} {f:Value→Value→Sem Value}
  (hf:∀ v u s2 x y H2,Inv X pins σ H2 s2→RelV x v→RelV y u→R x y H2→wpAny (model X.prog X.w) X.A (f v u) Q X.xe s2) :
  wpAny (model X.prog X.w) X.A (eval a X.env) (fun v s₁=>wpAny (model X.prog X.w) X.A (eval b X.env) (fun u s₂=>wpAny (model X.prog X.w) X.A (f v u) Q X.xe s₂) X.xe s₁) X.xe s:=by
 refine thn (ha pins s σ H _ I h) fun v s1 ⟨x,H1,I1,r1,q1⟩=>?_
 refine thn (hb pins s1 σ H1 _ I1 q1) fun u s2 ⟨y,H2,I2,r2,q2⟩=>?_
 exact hf v u s2 x y H2 I2 r1 r2 q2
theorem pe_op {op:Operator} {r:R2} (ho:OpR X (binaryOp op) r) (ha:PE X a ta) (hb:PE X b tb):PE X (.BinOp a op b pos) (tOp r ta tb):=by
 intro pins s σ H Q I h
 exact wpAny_BinOp (binT ha hb I h fun v u s2 x y H2 I2 rx ry q=>ho pins s2 σ H2 x y v u Q I2 rx ry q)
theorem pe_un {op:UnaryOp} {r:V→Hp→VK→Prop} (ho:UnR X (unaryOp op) r) (ha:PE X a ta):PE X (.UnaryOp op a pos) (tUn r ta):=by
 intro pins s σ H Q I h
 exact UnaryOp_ (thn (ha pins s σ H _ I h) fun v s1 ⟨x,H1,I1,r1,q1⟩=>ho pins s1 σ H1 x v Q I1 r1 q1)
theorem opI {f:Value→Value→Sem Value} {C:Int→Int→Prop} {g:Int→Int→Int}
  (rule:∀ (i j:Int) (t u:Tok) (s:Shared) (Q:Value→Shared→Prop) (E:Value→Shared→Prop),C i j→Q (.int (g i j) s.toks) { s with toks:=s.toks+1 }→wpAny (model X.prog X.w) X.A (f (.int i t) (.int j u)) Q E s) :
  OpR X f (rI C fun i j=>.int (g i j)):=by
 intro pins s σ H x y v u Q I rx ry h
 obtain ⟨i,j,rfl,rfl,hc,q⟩:=h
 obtain ⟨t,rfl⟩:=rx
 obtain ⟨t',rfl⟩:=ry
 exact rule i j t t' s _ _ hc ⟨.int (g i j),H,I.tok _,⟨_,rfl⟩,q⟩
theorem opI0 {f:Value→Value→Sem Value} {g:Int→Int→Int}
  (rule:∀ (i j:Int) (t u:Tok) (s:Shared) (Q:Value→Shared→Prop) (E:Value→Shared→Prop),Q (.int (g i j) s.toks) { s with toks:=s.toks+1 }→wpAny (model X.prog X.w) X.A (f (.int i t) (.int j u)) Q E s) :
  OpR X f (rI0 fun i j=>.int (g i j)):=by
 intro pins s σ H x y v u Q I rx ry h
 obtain ⟨i,j,rfl,rfl,q⟩:=h
 obtain ⟨t,rfl⟩:=rx
 obtain ⟨t',rfl⟩:=ry
 exact rule i j t t' s _ _ ⟨.int (g i j),H,I.tok _,⟨_,rfl⟩,q⟩
theorem opB0 {f:Value→Value→Sem Value} {g:Int→Int→Bool}
  (rule:∀ (i j:Int) (t u:Tok) (s:Shared) (Q:Value→Shared→Prop) (E:Value→Shared→Prop),Q (.bool (g i j)) s→wpAny (model X.prog X.w) X.A (f (.int i t) (.int j u)) Q E s) :
  OpR X f (rI0 fun i j=>.bl (g i j)):=by
 intro pins s σ H x y v u Q I rx ry h
 obtain ⟨i,j,rfl,rfl,q⟩:=h
 obtain ⟨t,rfl⟩:=rx
 obtain ⟨t',rfl⟩:=ry
 exact rule i j t t' s _ _ ⟨.bl (g i j),H,I,rfl,q⟩
def CDiv (i j:Int):Prop:=0<j∧j<1073741824
def CMul (i j:Int):Prop:=(-(2 ^ 64)<i∧i<2 ^ 64)∨(-(2 ^ 64)<j∧j<2 ^ 64)
theorem CMul.ok {i j:Int} (h:CMul i j):IntMulOk i j:=by
 rcases h with ⟨h1,h2⟩ | ⟨h1,h2⟩
 ·
  exact .of_left (intBits_le_64 h1 h2)
 ·
  exact .of_right (intBits_le_64 h1 h2)
theorem op_add:OpR X (binaryOp .Add) (rI0 fun i j=>.int (i+j)):=opI0 fun _ _ _ _ _ _ _ q=>add_int q
theorem op_sub:OpR X (binaryOp .Sub) (rI0 fun i j=>.int (i-j)):=opI0 fun _ _ _ _ _ _ _ q=>sub_int q
theorem op_mul:OpR X (binaryOp .Mult) (rI CMul fun i j=>.int (i*j)):=opI fun _ _ _ _ _ _ _ hc q=>mul_int q hc.ok
theorem op_fdiv:OpR X (binaryOp .FloorDiv) (rI CDiv fun i j=>.int (i / j)):=opI fun i j _ _ _ _ _ hc q=>by
 have h1:(0:Int)<j:=hc.1
 have h2:j<1073741824:=hc.2
 exact floordiv_int (by omega) (by rw [Int.fdiv_eq_ediv_of_nonneg i (by omega)];exact q) (.inl (PyProof.noPylong_small (by omega)))
theorem op_mod:OpR X (binaryOp .Mod) (rI (fun _ j=>0<j) fun i j=>.int (i % j)):=opI fun i j _ _ _ _ _ hc q=>by
 have h1:(0:Int)<j:=hc
 exact mod_int' (by omega) (by rw [Int.fmod_eq_emod_of_nonneg i (by omega)];exact q)
theorem unI {f:Value→Sem Value} {g:Int→Int}
  (rule:∀ (i:Int) (t:Tok) (s:Shared) (Q:Value→Shared→Prop) (E:Value→Shared→Prop),Q (.int (g i) s.toks) { s with toks:=s.toks+1 }→wpAny (model X.prog X.w) X.A (f (.int i t)) Q E s) :
  UnR X f (rU fun i=>.int (g i)):=by
 intro pins s σ H x v Q I rx h
 obtain ⟨i,rfl,q⟩:=h
 obtain ⟨t,rfl⟩:=rx
 exact rule i t s _ _ ⟨.int (g i),H,I.tok _,⟨_,rfl⟩,q⟩
theorem un_neg:UnR X (unaryOp .USub) (rU fun i=>.int (-i)):=unI fun _ _ _ _ _ q=>neg_int q
end
section
variable {X:Cx} {a b c:Expr} {ta tb tc:TE} {pos:Pos}
theorem fin_bl {pins:List (Addr×Obj)} {σ:St} {H:Hp} {s:Shared} {Q:VK} {k k':Bool} (I:Inv X pins σ H s) (q:Q (.bl k) H) (e:k=k'):EP X pins σ Q (.bool k') s:=by
 subst e
 exact ⟨.bl k,H,I,rfl,q⟩
theorem op_lt:OpR X (compareOp .Lt) (rI0 fun i j=>.bl (decide (i<j))):=opB0 fun _ _ _ _ _ _ _ q=>lt_int q
theorem op_le:OpR X (compareOp .LtE) (rI0 fun i j=>.bl (decide (i≤j))):=opB0 fun _ _ _ _ _ _ _ q=>le_int q
theorem op_gt:OpR X (compareOp .Gt) (rI0 fun i j=>.bl (decide (j<i))):=opB0 fun _ _ _ _ _ _ _ q=>gt_int q
theorem op_ge:OpR X (compareOp .GtE) (rI0 fun i j=>.bl (decide (j≤i))):=opB0 fun _ _ _ _ _ _ _ q=>ge_int q
theorem ji (b:Expr) {op:CmpOp} (h:op≠.In:=by decide) (h2:op≠.NotIn:=by decide):behindInMarks op b=false:=by
 have e1:(op==CmpOp.In)=false:=by cases op <;> first | rfl | exact absurd rfl h
 have e2:(op==CmpOp.NotIn)=false:=by cases op <;> first | rfl | exact absurd rfl h2
 cases b <;> simp [behindInMarks,e1,e2]
theorem pe_cmpR {op:CmpOp} {r:R2} (ho:OpR X (compareOp op) r) (ha:PE X a ta) (hb:PE X b tb) (hm:behindInMarks op b=false):PE X (.Compare a [op] [b] pos) (tOp r ta tb):=by
 intro pins s σ H Q I h
 exact wpAny_Compare1 (binT ha hb I h fun v u s2 x y H2 I2 rx ry q=>ho pins s2 σ H2 x y v u Q I2 rx ry q) hm
def tTest (t:TE):TT:=fun σ H Q=>t σ H fun x H'=>∃ k,x=.bl k∧Q k H'
theorem pt_cmpR {op:CmpOp} {r:R2} (ho:OpR X (compareOp op) r) (ha:PE X a ta) (hb:PE X b tb) (hm:behindInMarks op b=false):PT X (.Compare a [op] [b] pos) (tTest (tOp r ta tb)):=by
 intro pins s σ H Q I h
 refine wpAny_isTrue_Compare1 (thn (ha pins s σ H _ I h) fun v s1 ⟨x,H1,I1,r1,q1⟩=>thn (hb pins s1 σ H1 _ I1 q1) fun u s2 ⟨y,H2,I2,r2,q2⟩=>
  thn (ho pins s2 σ H2 x y v u _ I2 r1 r2 q2) fun c s3 ⟨z,H3,I3,r3,k,e,q3⟩=>?_) hm
 subst e
 cases r3
 exact wpAny_truthy_bool ⟨H3,I3,q3⟩
def tChain (r r':R2) (ta tb tc:TE):TE:=fun σ H Q=>ta σ H fun x H1=>tb σ H1 fun y H2=>r x y H2 fun z H3=>∃ k,z=.bl k∧
 (if k=true then tc σ H3 fun w' H4=>r' y w' H4 Q else Q (.bl false) H3)
theorem pe_chain {op op':CmpOp} {r r':R2} (ho:OpR X (compareOp op) r) (ho':OpR X (compareOp op') r') (ha:PE X a ta) (hb:PE X b tb) (hc:PE X c tc)
  (hm:lastMarks [op,op'] [b,c]=false:=by with_unfolding_all rfl):PE X (.Compare a [op,op'] [b,c] pos) (tChain r r' ta tb tc):=by
 intro pins s σ H Q I h
 refine Compare_chain (thn (ha pins s σ H _ I h) fun v s1 ⟨x,H1,I1,r1,q1⟩=>chain_link (thn (hb pins s1 σ H1 _ I1 q1) fun u s2 ⟨y,H2,I2,r2,q2⟩=>
  thn (ho pins s2 σ H2 x y v u _ I2 r1 r2 q2) fun d s3 ⟨z,H3,I3,r3,k,e,q3⟩=>?_)) hm
 subst e
 cases r3
 refine wpAny_truthy_bool ?_
 cases k with
 | false=>exact ite_ff ⟨.bl false,H3,I3,rfl,q3⟩
 | true=>exact ite_tt (chain_last (thn (hc pins s3 σ H3 _ I3 q3) fun w' s4 ⟨z',H4,I4,r4,q4⟩=>ho' pins s4 σ H4 y z' u w' Q I4 r2 r4 q4))
theorem pt_chain {op op':CmpOp} {r r':R2} (ho:OpR X (compareOp op) r) (ho':OpR X (compareOp op') r') (ha:PE X a ta) (hb:PE X b tb) (hc:PE X c tc)
  (hm:lastMarks [op,op'] [b,c]=false:=by with_unfolding_all rfl):PT X (.Compare a [op,op'] [b,c] pos) (tTest (tChain r r' ta tb tc)):=by
 intro pins s σ H Q I h
 refine isTrue_chain (thn (ha pins s σ H _ I h) fun v s1 ⟨x,H1,I1,r1,q1⟩=>test_link (thn (hb pins s1 σ H1 _ I1 q1) fun u s2 ⟨y,H2,I2,r2,q2⟩=>
  thn (ho pins s2 σ H2 x y v u _ I2 r1 r2 q2) fun d s3 ⟨z,H3,I3,r3,k,e,q3⟩=>?_)) hm
 subst e
 cases r3
 refine wpAny_truthy_bool ?_
 cases k with
 | false=>
  obtain ⟨k',e',q'⟩:=q3
  cases e'
  exact ite_ff ⟨H3,I3,q'⟩
 | true=>
  refine ite_tt (test_last (thn (hc pins s3 σ H3 _ I3 q3) fun w' s4 ⟨z',H4,I4,r4,q4⟩=>thn (ho' pins s4 σ H4 y z' u w' _ I4 r2 r4 q4) fun d' s5 ⟨z2,H5,I5,r5,k2,e2,q5⟩=>?_))
  subst e2
  cases r5
  exact wpAny_truthy_bool ⟨H5,I5,q5⟩
theorem mJ:(sizeLine:Nat)<2 ^ 63:=by rw [sizeLine_eq];decide
theorem o7:OpR X (binaryOp .Add) (fun x y H Q=>∃ i j,x=.str i∧y=.str j∧i.length+j.length≤sizeLine∧Q (.str (i++j)) H):=by
 intro pins s σ H x y v u Q I rx ry h
 obtain ⟨i,j,rfl,rfl,hz,q⟩:=h
 obtain ⟨t,rfl⟩:=rx
 obtain ⟨t',rfl⟩:=ry
 exact add_str (fun t' tk=>⟨.str (i++j),H,I.tok _,⟨_,rfl⟩,q⟩) hz
theorem vals1 {x:V} {us:List Value} (r:aQ [x] us):∃ u,us=[u]∧RelV x u:=by
 cases r with
 | cons r1 r2=>cases r2;exact ⟨_,rfl,r1⟩
theorem vals2 {x y:V} {us:List Value} (r:aQ [x,y] us):∃ u w',us=[u,w']∧RelV x u∧RelV y w':=by
 cases r with
 | cons r1 r2=>
  cases r2 with
  | cons r3 r4=>cases r4;exact ⟨_,_,rfl,r1,r3⟩
theorem call_max2 (hc:X.calm=true):cz X (.builtin "max") (fun xs H Q=>∃ i j,xs=[.int i,.int j]∧Q (.int (if j>i then j else i)) H):=by
 intro pins s σ H xs us Q I r h
 obtain ⟨i,j,rfl,q⟩:=h
 obtain ⟨u,w',rfl,⟨t,rfl⟩,⟨t',rfl⟩⟩:=vals2 r
 refine max_two_ints (I.ok.hd hc) fun h' tk k=>⟨_,H,I.kept k,?_,q⟩
 by_cases hj:j>i
 ·
  rw [if_pos hj,if_pos hj];exact ⟨_,rfl⟩
 ·
  rw [if_neg hj,if_neg hj];exact ⟨_,rfl⟩
theorem call_min2 (hc:X.calm=true):cz X (.builtin "min") (fun xs H Q=>∃ i j,xs=[.int i,.int j]∧Q (.int (if j<i then j else i)) H):=by
 intro pins s σ H xs us Q I r h
 obtain ⟨i,j,rfl,q⟩:=h
 obtain ⟨u,w',rfl,⟨t,rfl⟩,⟨t',rfl⟩⟩:=vals2 r
 refine min_two_ints (I.ok.hd hc) fun h' tk k=>⟨_,H,I.kept k,?_,q⟩
 by_cases hj:j<i
 ·
  rw [if_pos hj,if_pos hj];exact ⟨_,rfl⟩
 ·
  rw [if_neg hj,if_neg hj];exact ⟨_,rfl⟩
end
end L2
namespace L2
open PySem PySem.Spec PyProof.Rows
structure ObjM (h:Heap) (x dx C:Addr) (mA:Str→Option Value):Prop where
 obj:h.get? x=some (PySem.W.instObj C dx)
 ns:h.Ns1 dx mA
 ne:dx≠x
theorem lookIn_ns {h:Heap} {dx:Addr} {mA:Str→Option Value} (n:h.Ns1 dx mA):∃ od,h.get? dx=some od∧∀ name,PySem.W.lookIn name od=some (mA name):=by
 obtain ⟨o,es,ep,ho,hd,hk,_,hm⟩:=n
 refine ⟨o,ho,fun name=>?_⟩
 have e:=hm name
 unfold nsFind findBy at e
 rw [←Array.find?_toList] at e
 unfold PySem.W.lookIn
 rw [hd]
 dsimp only
 split
 ·
  rename_i y q
  rw [q] at e
  exact congrArg some e
 ·
  rename_i q
  rw [q] at e
  have a:es.toList.any (·.refKey)=false:=by
   rw [List.any_eq_false]
   intro y hy
   obtain ⟨z,t,hkey⟩:=hk y (Array.mem_toList_iff.mp hy)
   simp [DictEntry.refKey,hkey]
  have a':¬es.toList.any (·.refKey)=true:=by rw [a];exact Bool.false_ne_true
  rw [if_neg a']
  exact congrArg some e
theorem ObjM.look {h:Heap} {x dx C:Addr} {mA:Str→Option Value} (I:ObjM h x dx C mA):∃ od,PySem.W.InstAt h x (PySem.W.instObj C dx) C (some od)∧∀ name,PySem.W.lookIn name od=some (mA name):=
 let ⟨od,ho,hl⟩:=lookIn_ns I.ns
 ⟨od,⟨I.obj,rfl,rfl,ho⟩,hl⟩
section
variable {prog:Program} {w:World} {A:Around} {E:Value→Shared→Prop} {s:Shared} {K:PySem.W.Frag} {x dx C f:Addr} {mA:Str→Option Value} {name:Str} {v:Value}
theorem get_map {expr:Bool} {Q:Value→Shared→Prop} (X:K.In s.heap) (I:ObjM s.heap x dx C mA) (hg:PySem.W.plainGet K C name=true) (hh:PySem.W.hasDictIn K C=true)
  (ha:PySem.W.findIn K (.ref C) name=some none) (hv:mA name=some v) (hv':PySem.W.handedIn v=true) (h:Q v { s with toks:=s.toks+1 }) :
  wpAny (model prog w) A (getAttr (.ref x) name expr) Q E s:=by
 obtain ⟨od,J,hl⟩:=I.look
 exact PySem.W.get_value X J (PySem.W.plainGet_of hg).1 (PySem.W.findObj_own hh ha rfl (by rw [hl,hv])) hv' h
theorem get_meth {pl:Sem Bool} {Q:Value×List Value→Shared→Prop} (X:K.In s.heap) (I:ObjM s.heap x dx C mA) (hg:PySem.W.plainGet K C name=true)
  (hf:PySem.W.findIn K (.ref C) name=some (some (.ref f))) (ht:PySem.W.isFn K (.ref f)=true) (hv:mA name=none) (h:Q (.ref f,[.ref x]) s) :
  wpAny (model prog w) A (getMethod (.ref x) name pl) Q E s:=by
 obtain ⟨od,J,hl⟩:=I.look
 exact PySem.W.method_fn X J (PySem.W.plainGet_of hg).1 (PySem.W.plainGet_of hg).2 hf (beq_iff_eq.mp ht) (by show (PySem.W.lookIn name od).map (·.isSome)=some false;rw [hl,hv];rfl) h
theorem set_map {ns:List Str} {Q:Unit→Shared→Prop} (X:K.In s.heap) (I:ObjM s.heap x dx C mA)
  (hs:PySem.W.findIn K (.ref C) "__setattr__" = some (some (.builtin "object.__setattr__"))) (hp:PySem.W.plainOver K C=true) (ht:PySem.W.takerIn K C name=some none) (hh:PySem.W.hasDictIn K C=true)
  (hw:PySem.Within mA ns) (hsz:ns.length≤sizeLine)
  (h:∀ h',ObjM h' x dx C (fun y=>if y=name then some v else mA y)→Heap.SameBut dx s.heap h'→Q () { s with heap:=h',toks:=s.toks+2 }) :
  wpAny (model prog w) A (setAttr (.ref x) name v) Q E s:=by
 obtain ⟨od,J,hl⟩:=I.look
 refine PySem.W.set_plain X J hs (PySem.W.osa_open (s:={ s with toks:=s.toks+1 }) (r:=none) X J hp ht fun b=>?_)
 obtain ⟨cd,hc,hd'⟩:=PySem.W.any_some hh
 have hx:s.heap.get? x=some ⟨.ref C,some dx,.plain,#[]⟩:=I.obj
 refine wpAny_bind (wpAny_pure (wpAny_bind (wpAny_bind (wpAny_loadPart hx (wpAny_bind (PySem.W.Looks.here (s:={ s with toks:=s.toks+1 }) (PySem.W.looks_clsIn X hc) ?_))))))
 rw [hd']
 refine wpAny_pure (a:=some dx) (wpAny_bind (wpAny_pure (wpAny_bind ?_)))
 refine wpAny_nsSet1 (s:={ s with toks:=s.toks+1 }) I.ns fun h' hn2 hs2=>?_
 obtain ⟨oD,esD,epD,hoD,hdD,hcD⟩:=hn2.count (PySem.Within.cons name v hw)
 refine wpAny_bind (wpAny_lookBehind hoD (by rw [hdD];exact pastItsLine_dict (Nat.le_trans hcD (by rw [List.length_cons];omega))) ?_)
 exact wpAny_pure (h _ ⟨(hs2.2 _ (Ne.symm I.ne)).trans I.obj,hn2,I.ne⟩ hs2)
theorem make_map {R:Result→Shared→Prop} {vs:List Value} {kw:List (Str×Value)} (X:K.In s.heap) (hm:PySem.W.makesIn K C=true)
  (hi:PySem.W.findIn K (.ref C) "__init__" = some (some (.ref f))) (hf:PySem.W.typeIn K (.ref f)=some (.type "function"))
  (h:codeAny (model prog w) (A.under (.builtin "type.__call__" ⟨.ref C::vs,kw⟩)) (.call (.ref f) ⟨.ref (s.heap.objs.size+1)::vs,kw⟩) (PySem.W.InitBack (s.heap.objs.size+1) R)
   { s with heap:=(s.heap.push PySem.W.emptyDict).push (PySem.W.instObj C s.heap.objs.size) }) :
  codeAny (model prog w) A (.call (.ref C) ⟨vs,kw⟩) R s:=by
 obtain ⟨hh,g,d,t,os⟩:=s
 exact PySem.W.make_core (PySem.W.makes_of X hm) (PySem.W.looks_findIn X hi) (fun self=>PySem.W.bind_fn X self hf) (.inl rfl) h
end
def gg (f:Str) (v:V):List (Str×V)→List (Str×V)
  | []=>[(f,v)]
  | (g,x)::r=>if g=f then (g,v)::r else (g,x)::gg f v r
theorem jH (f g:Str) (v:V):∀ fs:List (Str×V),(gg f v fs).lookup g=if g=f then some v else fs.lookup g
  | []=>by
    show List.lookup g [(f,v)]=_
    by_cases h:g=f
    · have hb:(g==f)=true:=beq_iff_eq.mpr h
      simp only [List.lookup,hb,if_pos h]
    · have hb:(g==f)=false:=beq_eq_false_iff_ne.mpr h
      simp only [List.lookup,hb,if_neg h]
  | (k,x)::r=>by
    have ih:=jH f g v r
    rw [show gg f v ((k,x)::r)=(if k=f then (k,v)::r else (k,x)::gg f v r) from rfl]
    by_cases hk:k=f
    · rw [if_pos hk]
      by_cases h:g=k
      · have hb:(g==k)=true:=beq_iff_eq.mpr h
        simp only [List.lookup,hb,if_pos (h.trans hk)]
      · have hb:(g==k)=false:=beq_eq_false_iff_ne.mpr h
        simp only [List.lookup,hb,if_neg (fun e:g=f=>h (e.trans hk.symm))]
    · rw [if_neg hk]
      by_cases h:g=k
      · have hb:(g==k)=true:=beq_iff_eq.mpr h
        simp only [List.lookup,hb,if_neg (fun e:g=f=>hk (h.symm.trans e))]
      · have hb:(g==k)=false:=beq_eq_false_iff_ne.mpr h
        simp only [List.lookup,hb]
        exact ih
theorem jj (f:Str) (v:V):∀ fs:List (Str×V),f∈(gg f v fs).map (·.1)∧∀ g,g∈fs.map (·.1)→g∈(gg f v fs).map (·.1)
  | []=>⟨by simp [gg],fun g h=>by simp at h⟩
  | (k,x)::r=>by
    obtain ⟨i1,i2⟩:=jj f v r
    rw [show gg f v ((k,x)::r)=(if k=f then (k,v)::r else (k,x)::gg f v r) from rfl]
    by_cases hk:k=f
    · rw [if_pos hk]
      subst hk
      exact ⟨by simp,fun g h=>by simpa using h⟩
    · rw [if_neg hk]
      refine ⟨?_,fun g h=>?_⟩
      · rw [List.map_cons]
        exact List.mem_cons_of_mem _ i1
      · rw [List.map_cons] at h ⊢
        rcases List.mem_cons.mp h with e | e
        · exact List.mem_cons.mpr (.inl e)
        · exact List.mem_cons_of_mem _ (i2 g e)
theorem jI (f:Str) (v:V):∀ fs:List (Str×V),(gg f v fs).length≤fs.length+1
  | []=>by simp [gg]
  | (k,x)::r=>by
    have ih:=jI f v r
    rw [show gg f v ((k,x)::r)=(if k=f then (k,v)::r else (k,x)::gg f v r) from rfl]
    by_cases hk:k=f
    · rw [if_pos hk,List.length_cons,List.length_cons];omega
    · rw [if_neg hk,List.length_cons,List.length_cons];omega
theorem RelO.some_of {v:V} {o:Option Value} (r:RelO (some v) o):∃ u,o=some u∧RelV v u:=by
 cases o with
 | none=>exact (show False from r).elim
 | some u=>exact ⟨u,rfl,r⟩
theorem RelO.none_of {o:Option Value} (r:RelO none o):o=none:=by
 cases o with
 | none=>rfl
 | some u=>exact (show False from r).elim
theorem handed_of {v:V} {u:Value} (r:RelV v u):PySem.W.handedIn u=true:=by
 cases v with
 | non=>cases (show u=Value.none from r);rfl
 | bl b=>cases (show u=Value.bool b from r);rfl
 | int i=>obtain ⟨t,e⟩:=(show ∃ t,u=Value.int i t from r);cases e;rfl
 | str x=>obtain ⟨t,e⟩:=(show ∃ t,u=Value.str x t from r);cases e;rfl
 | byt b=>obtain ⟨t,e⟩:=(show ∃ t,u=Value.bytes b t from r);cases e;rfl
 | flt b=>obtain ⟨t,e⟩:=(show ∃ t,u=Value.float b t from r);cases e;rfl
 | ref a=>cases (show u=Value.ref a from r);rfl
 | ty n=>cases (show u=Value.type n from r);rfl
section
variable {P:Program} {w:World} {H H':Hp} {h h':Heap} {a C dx:Addr} {fs fs':List (Str×V)}
theorem ko (hok:HOk P w H h) (e:H a=some (.ins C dx fs)):∃ mA,ObjM h a dx C mA∧(∀ f,RelO (fs.lookup f) (mA f))∧PySem.Within mA (fs.map (·.1))∧fs.length≤1000∧H dx=some (.own a):=by
 obtain ⟨d,z,ne,ob,mA,n,r,q⟩:=(show cB P w H h a (.ins C dx fs) from hok a _ e)
 exact ⟨mA,⟨ob,n,ne⟩,r,q,z,d⟩
end
structure Cls (K:PySem.W.Frag) (C:Addr):Prop where
 pg:PySem.W.plainGet K C Str.empty=true
 hd:PySem.W.hasDictIn K C=true
 po:PySem.W.plainOver K C=true
 sa:PySem.W.findIn K (.ref C) "__setattr__" = some (some (.builtin "object.__setattr__"))
theorem Cls.get {K:PySem.W.Frag} {C:Addr} (c:Cls K C) (f:Str):PySem.W.plainGet K C f=true:=c.pg
def NoAttr (K:PySem.W.Frag) (C:Addr) (f:Str):Prop:=PySem.W.findIn K (.ref C) f=some none
theorem NoAttr.taker {K:PySem.W.Frag} {C:Addr} {f:Str} (n:NoAttr K C f):PySem.W.takerIn K C f=some none:=by
 unfold PySem.W.takerIn
 rw [show PySem.W.findIn K (.ref C) f=some none from n]
 rfl
structure Meth (K:PySem.W.Frag) (C:Addr) (m:Str) (f:Addr):Prop where
 at_:PySem.W.findIn K (.ref C) m=some (some (.ref f))
 fn:PySem.W.isFn K (.ref f)=true
 kp:PySem.W.keepIn K (.ref f)=true
section
variable {X:Cx} {pins:List (Addr×Obj)} {σ:St} {H:Hp} {s:Shared} {a C dx:Addr} {fs:List (Str×V)} {f:Str} {v:V} {A:Around} {E:Value→Shared→Prop}
theorem o8 {b:Bool} {Q:Value→Shared→Prop} (I:Inv X pins σ H s) (e:H a=some (.ins C dx fs)) (c:Cls X.K C) (n:NoAttr X.K C f) (l:fs.lookup f=some v)
  (h:∀ u s',Inv X pins σ H s'→RelV v u→Q u s'):wpAny (model X.prog X.w) A (getAttr (.ref a) f b) Q E s:=by
 obtain ⟨mA,O,r,_,_,_⟩:=ko I.hok e
 obtain ⟨u,hu,ru⟩:=RelO.some_of (v:=v) (o:=mA f) (by rw [←l];exact r f)
 exact get_map I.kIn O (c.get f) c.hd n hu (handed_of ru) (h u _ (I.tok _) ru)
theorem ic {m:Str} {g:Addr} {pl:Sem Bool} {Q:Value×List Value→Shared→Prop} (I:Inv X pins σ H s) (e:H a=some (.ins C dx fs)) (c:Cls X.K C) (k:Meth X.K C m g) (l:fs.lookup m=none)
  (h:Q (.ref g,[.ref a]) s):wpAny (model X.prog X.w) A (getMethod (.ref a) m pl) Q E s:=by
 obtain ⟨mA,O,r,_,_,_⟩:=ko I.hok e
 have hn:mA m=none:=RelO.none_of (by rw [←l];exact r m)
 exact get_meth I.kIn O (c.get m) k.at_ k.fn hn h
theorem o9 {y:V} {u:Value} {Q:Unit→Shared→Prop} (I:Inv X pins σ H s) (e:H a=some (.ins C dx fs)) (c:Cls X.K C) (n:NoAttr X.K C f) (hl:fs.length<1000) (ry:RelV y u)
  (h:∀ s',Inv X pins σ (upd H a (.ins C dx (gg f y fs))) s'→Q () s'):wpAny (model X.prog X.w) A (setAttr (.ref a) f u) Q E s:=by
 obtain ⟨mA,O,r,wi,_,ho⟩:=ko I.hok e
 have hz:(fs.map (·.1)).length≤sizeLine:=by rw [List.length_map,sizeLine_eq];omega
 refine set_map I.kIn O c.sa c.po n.taker c.hd wi hz fun h' O' sb=>h _ ?_
 have hd:∃ o,h'.get? dx=some o:=let ⟨o,_,_,e',_⟩:=O'.ns;⟨o,e'⟩
 refine I.write (x:=a) (e:=dx) (by rw [e];exact True.intro) (.inr ho) (fun b q hb z=>(sb.2 b hb).trans z) hd ?_
 refine ⟨by rw [aH O.ne];exact ho,?_,O.ne,O'.obj,_,O'.ns,fun g=>?_,fun g hg=>?_⟩
 ·
  have:=jI f y fs;omega
 ·
  show RelO ((gg f y fs).lookup g) (if g=f then some u else mA g)
  rw [jH]
  by_cases q:g=f
  ·
   rw [if_pos q,if_pos q];exact ry
  ·
   rw [if_neg q,if_neg q];exact r g
 ·
  by_cases q:g=f
  ·
   rw [q];exact (jj f y fs).1
  ·
   refine (jj f y fs).2 g (wi g fun z=>hg ?_)
   show (if g=f then some u else mA g)=none
   rw [if_neg q];exact z
theorem Inv.made (I:Inv X pins σ H s):Inv X pins σ (upd (upd H s.heap.objs.size (.own (s.heap.objs.size+1))) (s.heap.objs.size+1) (.ins C s.heap.objs.size []))
  { s with heap:=(s.heap.push PySem.W.emptyDict).push (PySem.W.instObj C s.heap.objs.size) }:=by
 have e1:(s.heap.push PySem.W.emptyDict).get? s.heap.objs.size=some PySem.W.emptyDict:=Heap.get?_push_size s.heap rfl
 have e2:((s.heap.push PySem.W.emptyDict).push (PySem.W.instObj C s.heap.objs.size)).get? (s.heap.objs.size+1)=some (PySem.W.instObj C s.heap.objs.size):=by
  have:=Heap.get?_push_size (s.heap.push PySem.W.emptyDict) (o:=PySem.W.instObj C s.heap.objs.size) rfl
  rwa [Heap.size_push] at this
 have e3:(s.heap.push PySem.W.emptyDict).Ns s.heap.objs.size (fun _=>none):=⟨PySem.W.emptyDict,#[],_,e1,rfl,(fun e he=>absurd he (by simp)),fun _=>rfl⟩
 have I1:=I.laid (a:=s.heap.objs.size) (o:=.own (s.heap.objs.size+1)) (h':=s.heap.push PySem.W.emptyDict) (t':=s.toks) (fun b u q=>Heap.get?_push_of_some _ q) (Nat.le_refl _) ⟨_,e1⟩
 refine I1.laid (a:=s.heap.objs.size+1) (o:=.ins C s.heap.objs.size []) (t':=s.toks) (fun b u q=>Heap.get?_push_of_some _ q) (Nat.le_of_eq (Heap.size_push _ _)) ?_
 have ne:s.heap.objs.size≠s.heap.objs.size+1:=Nat.ne_of_lt (Nat.lt_succ_self _)
 refine ⟨by rw [aH ne,aF],Nat.zero_le _,ne,e2,fun _=>none,(Heap.Ns1.of_empty e3).at fun o q=>Heap.get?_push_of_some _ q,fun _=>True.intro,fun y hy=>absurd rfl hy⟩
theorem attr_of {prog:Program} {w:World} {env:Env} {e:Expr} {f:Str} {pos:Pos} {s:Shared} {Q:Value→Shared→Prop} (hb:attributeBase e f env (eval e env)=eval e env)
  (h:wpAny (model prog w) A (eval e env) (fun o s₁=>wpAny (model prog w) A (getAttr o f true) Q E s₁) E s):wpAny (model prog w) A (eval (.Attribute e f pos) env) Q E s:=
 Attribute_any_ h (by rw [arm_eval_Attribute,hb])
end
def tFld (K:PySem.W.Frag) (ta:TE) (f:Str):TE:=fun σ H Q=>ta σ H fun x H1=>∃ a C dx fs v,x=.ref a∧H1 a=some (.ins C dx fs)∧Cls K C∧NoAttr K C f∧fs.lookup f=some v∧Q v H1
def sFld (K:PySem.W.Frag) (ta tv:TE) (f:Str):TS:=fun D σ H=>tv σ H fun y H1=>ta σ H1 fun x H2=>∃ a C dx fs,x=.ref a∧H2 a=some (.ins C dx fs)∧Cls K C∧NoAttr K C f∧fs.length<1000∧
 D.nx σ (upd H2 a (.ins C dx (gg f y fs)))
section
variable {X:Cx} {o e value:Expr} {f:Str} {pos pos' tpos:Pos} {ta tv:TE}
theorem pe_fld (he:PE X e ta) (hb:attributeBase e f X.env (eval e X.env)=eval e X.env):PE X (.Attribute e f pos) (tFld X.K ta f):=by
 intro pins s σ H Q I h
 refine attr_of hb (thn (he pins s σ H _ I h) fun u s1 ⟨x,H1,I1,rx,a,C,dx,fs,v,ex,ea,c,n,l,q⟩=>?_)
 subst ex
 obtain rfl:u=Value.ref a:=rx
 exact o8 I1 ea c n l fun u' s2 I2 ru=>⟨v,H1,I2,ru,q⟩
theorem ps_fld (ha:PE X o ta) (hv:PE X value tv) (hs:swapsWith value (some (.Attribute o f pos')) pos.line X.env=pure false):PS X (.Assign [.Attribute o f pos'] value pos) (sFld X.K ta tv f):=by
 intro pins s σ H D I h
 refine plainObj_wpAny_Assign_Attribute (thn (hv pins s σ H _ I h) fun u s1 ⟨y,H1,I1,ry,q⟩=>thn (ha pins s1 σ H1 _ I1 q) fun ov s2 ⟨x,H2,I2,rx,a,C,dx,fs,ex,ea,c,n,l,q2⟩=>?_) hs
 subst ex
 obtain rfl:ov=Value.ref a:=rx
 exact o9 I2 ea c n l ry fun s3 I3=>⟨σ,_,I3,q2⟩
theorem methcall_of {pl:Sem Bool} {m:Str} {apos:Pos} {args:List Expr} {pins:List (Addr×Obj)} {s:Shared} {σ:St} {H:Hp} {Q:Value→Shared→Prop} {te:TE} (he:PE X e te) (I:Inv X pins σ H s)
  (h:te σ H fun x H1=>∃ a C dx fs g,x=.ref a∧H1 a=some (.ins C dx fs)∧Cls X.K C∧Meth X.K C m g∧fs.lookup m=none∧
   ∀ s1,Inv X pins σ H1 s1→wpAny (model X.prog X.w) X.A (callWith pos (.ref g) [.ref a] (backTo pos (starEach args X.env)) (backToKw pos (keywordEach [] X.env))) Q X.xe s1)
  (ht:eval (.Call (.Attribute e m apos) args [] pos) X.env=(do
   let ov ←eval e X.env
   standAt apos.atName
   let (f,first) ←holding [ov] (getMethod ov m pl)
   callWith pos f first (backTo pos (starEach args X.env)) (backToKw pos (keywordEach [] X.env)))) :
  wpAny (model X.prog X.w) X.A (eval (.Call (.Attribute e m apos) args [] pos) X.env) Q X.xe s:=by
 refine PySem.W.methodCall_KW (pl:=pl) (thn (he pins s σ H _ I h) fun u s1 ⟨x,H1,I1,rx,a,C,dx,fs,g,ex,ea,c,k,l,q⟩=>?_) ht
 subst ex
 obtain rfl:u=Value.ref a:=rx
 exact ic I1 ea c k l (q s1 I1)
end
section
variable {X:Cx} {pins:List (Addr×Obj)} {σ:St} {H:Hp} {s:Shared} {A:Around} {E:Value→Shared→Prop} {Q:Value→Shared→Prop} {c:Value} {b:Bool}
inductive iB (K:PySem.W.Frag) (H:Hp):V→Value→Prop where
 | non:iB K H .non (.type "NoneType")
 | bl (x:Bool):iB K H (.bl x) (.type "bool")
 | int (i:Int):iB K H (.int i) (.type "int")
 | str (x:Str):iB K H (.str x) (.type "str")
 | flt (x:UInt64):iB K H (.flt x) (.type "float")
 | lst {a:Addr} {xs:List V} (e:H a=some (.lst xs)):iB K H (.ref a) (.type "list")
 | frz {a:Addr} {o:Obj} {xs:List V} (e:H a=some (.frz o (.lst xs))):iB K H (.ref a) (.type "list")
 | tup {a:Addr} {xs:List V} (e:H a=some (.tup xs)):iB K H (.ref a) (.type "tuple")
 | dK {a:Addr} {kvs:List (Key×V)} (e:H a=some (.dK kvs)):iB K H (.ref a) (.type "dict")
 | dT {a:Addr} {kvs:List (List Key×V)} (e:H a=some (.dT kvs)):iB K H (.ref a) (.type "dict")
 | ins {a C dx:Addr} {fs:List (Str×V)} (e:H a=some (.ins C dx fs)) (cl:Cls K C) (ha:PySem.W.findIn K (.ref C) "__class__" = some (some (.builtin "object.__class__")))
  (hn:PySem.W.specialIn K (.builtin "object.__class__") "__get__" = some (some (.builtin "getset_descriptor.__get__"))) (htk:PySem.W.takesIn K (.builtin "object.__class__")=some true)
  (hm:PySem.W.mroIn K C (.type "object")=some true):iB K H (.ref a) (.ref C)
theorem isinst_ok {x:V} {u t:Value} (I:Inv X pins σ H s) (rx:RelV x u) (ty:iB X.K H x t) (e:PySem.W.kitOne X.K t c=some b) (h:∀ tk,Q (.bool b) { s with toks:=tk }) :
  wpAny (model X.prog X.w) A (call (.builtin "isinstance") [u,c]) Q E s:=by
 cases ty with
 | non=>cases (show u=Value.none from rx);exact PySem.W.kia_one PySem.W.kitx_none I.kIn True.intro e (fun z=>nomatch z) h
 | bl y=>cases (show u=Value.bool y from rx);exact PySem.W.kia_one PySem.W.kitx_bool I.kIn True.intro e (fun z=>nomatch z) h
 | int i=>obtain ⟨t,q⟩:=(show ∃ t,u=Value.int i t from rx);cases q;exact PySem.W.kia_one PySem.W.kitx_int I.kIn True.intro e (fun z=>nomatch z) h
 | str y=>obtain ⟨t,q⟩:=(show ∃ t,u=Value.str y t from rx);cases q;exact PySem.W.kia_one PySem.W.kitx_str I.kIn True.intro e (fun z=>nomatch z) h
 | flt y=>obtain ⟨t,q⟩:=(show ∃ t,u=Value.float y t from rx);cases q;exact PySem.W.kia_one PySem.W.kitx_float I.kIn True.intro e (fun z=>nomatch z) h
 | @lst a xs ea=>
  cases (show u=Value.ref a from rx)
  obtain ⟨_,_,n,_,h1⟩:=(show cB X.prog X.w H s.heap a (.lst xs) from I.hok a _ ea)
  exact PySem.W.kia_one PySem.W.kitx_list I.kIn ⟨_,h1,rfl⟩ e (fun z=>nomatch z) h
 | @frz a ob xs ea=>
  cases (show u=Value.ref a from rx)
  obtain ⟨_,_,_,n,_,h1⟩:=(show cB X.prog X.w H s.heap a (.frz ob (.lst xs)) from I.hok a _ ea)
  exact PySem.W.kia_one PySem.W.kitx_list I.kIn ⟨_,h1,rfl⟩ e (fun z=>nomatch z) h
 | @tup a xs ea=>
  cases (show u=Value.ref a from rx)
  obtain ⟨_,_,_,p⟩:=(show cB X.prog X.w H s.heap a (.tup xs) from I.hok a _ ea)
  obtain ⟨o,h1,h2,_⟩:=p
  exact PySem.W.kia_one PySem.W.kitx_tuple I.kIn ⟨o,h1,h2⟩ e (fun z=>nomatch z) h
 | @dK a kvs ea=>
  cases (show u=Value.ref a from rx)
  obtain ⟨_,_,vs,_,p⟩:=(show cB X.prog X.w H s.heap a (.dK kvs) from I.hok a _ ea)
  obtain ⟨o,es,ep,h1,h2,_⟩:=p
  exact PySem.W.kia_one PySem.W.kitx_dict I.kIn ⟨o,h1,h2.1⟩ e (fun z=>nomatch z) h
 | @dT a kvs ea=>
  cases (show u=Value.ref a from rx)
  obtain ⟨_,_,xs,_,o,es,ep,h1,h2,_⟩:=(show cB X.prog X.w H s.heap a (.dT kvs) from I.hok a _ ea)
  exact PySem.W.kia_one PySem.W.kitx_dict I.kIn ⟨o,h1,h2.1⟩ e (fun z=>nomatch z) h
 | @ins a C dx fs ea cl ha hn htk hm=>
  cases (show u=Value.ref a from rx)
  obtain ⟨mA,O,_⟩:=ko I.hok ea
  obtain ⟨od,J,_⟩:=O.look
  exact PySem.W.kia_one (PySem.W.kitx_own (cl.get _) cl.hd ha hn htk hm) I.kIn J e (fun z=>nomatch z) h
end
end L2
namespace L2
open PySem PySem.Spec PyProof.Rows
structure bC (k:Nat) (A:Around):Prop where
 hd:A.handled=none
 dp:A.depth+3*k+5<recursionLimit
 un:A.units+16*k+200<cLine
theorem bC.mono {j k:Nat} {A:Around} (r:bC k A) (h:j≤k):bC j A:=⟨r.hd,by have:=r.dp;omega,by have:=r.un;omega⟩
theorem bC.deeper {k:Nat} {A:Around} (r:bC (k+1) A) (env:Env):bC k (A.deeper env):=
 ⟨r.hd,by have:=r.dp;show A.depth+1+3*k+5<_;omega,by have:=r.un;show A.units+3+16*k+200<_;omega⟩
theorem pb {A:Around} {C:Addr} {us:List Value} {kw:List (Str×Value)}:(A.under (.builtin "type.__call__" ⟨.ref C::us,kw⟩)).depth=A.depth+1:=by
 first | rfl | simp [Around.under,Code.weight,Code.isCreation,Code.isGuard,Code.isCaller,Code.frames,Code.isFrame,guardIds]
theorem pd {A:Around} {C:Addr} {us:List Value} {kw:List (Str×Value)}:(A.under (.builtin "type.__call__" ⟨.ref C::us,kw⟩)).units=A.units+1:=by
 first | rfl | simp [Around.under,Code.cUnits,Code.frames,Code.isFrame]
theorem bC.make {k:Nat} {A:Around} (r:bC (k+1) A) (C:Addr) (us:List Value) (kw:List (Str×Value)):bC k (A.under (.builtin "type.__call__" ⟨.ref C::us,kw⟩)):=
 ⟨r.hd,by have:=r.dp;rw [pb];omega,by have:=r.un;rw [pd];omega⟩
theorem bC.depth {k:Nat} {A:Around} (r:bC k A):A.depth<recursionLimit:=by have:=r.dp;omega
def tNil:TA:=fun _ H Q=>Q [] H
def tCons (ta:TE) (tr:TA):TA:=fun σ H Q=>ta σ H fun x H1=>tr σ H1 fun xs H2=>Q (x::xs) H2
section
variable {X:Cx} {e:Expr} {es:List Expr} {te:TE} {t:TA} {pos:Pos}
theorem eE:PA X [] tNil:=fun _ _ _ _ H Q I h=>Calls.spliced_nil ⟨[],H,I,.nil,h⟩
theorem ce (ha:PE X e te) (hr:PA X es t) (hs:starEach (e::es) X.env=(false,eval e X.env)::starEach es X.env:=by rfl):PA X (e::es) (tCons te t):=by
 intro pos pins s σ H Q I h
 rw [hs]
 show wpAny _ _ (spliced ((false,eval e X.env)::backTo pos (starEach es X.env))) _ _ s
 refine Calls.spliced_cons (thn (ha pins s σ H _ I h) fun u s1 ⟨x,H1,I1,r1,q1⟩=>?_)
 exact thn (hr pos pins s1 σ H1 _ I1 q1) fun us s2 ⟨xs,H2,I2,r2,q2⟩=>⟨x::xs,H2,I2,.cons r1 r2,q2⟩
def tTup (t:TA):TE:=fun σ H Q=>t σ H fun xs H1=>xs.length≤sizeLine∧∀ p,H1 p=none→Q (.ref p) (upd H1 p (.tup xs))
def tLst (t:TA):TE:=fun σ H Q=>t σ H fun xs H1=>xs.length≤sizeLine∧∀ p,H1 p=none→Q (.ref p) (upd H1 p (.lst xs))
theorem pe_tup {x1} (h:PA X es t):PE X (.Tuple es x1 pos) (tTup t):=by
 intro pins s σ H Q I hq
 refine wpAny_Tuple_spliced (thn (h pos pins s σ H _ I hq) fun us s1 ⟨xs,H1,I1,r,z,q⟩=>⟨by rw [←r.length];exact z,?_⟩)
 have hf:H1 s1.heap.objs.size=none:=I1.hok.fresh (Nat.le_refl _)
 refine ⟨.ref s1.heap.objs.size,upd H1 s1.heap.objs.size (.tup xs),I1.laid (t':=s1.toks) (fun b u e=>Heap.get?_push_of_some _ e) (Nat.le_refl _) ?_,rfl,q _ hf⟩
 exact ⟨z,us,r,⟨_,Heap.get?_push_size _ rfl,rfl,_,rfl⟩⟩
theorem pe_lst (h:PA X es t):PE X (.List es pos) (tLst t):=by
 intro pins s σ H Q I hq
 refine wpAny_List_spliced (thn (h pos pins s σ H _ I hq) fun us s1 ⟨xs,H1,I1,r,z,q⟩=>⟨by rw [←r.length];exact z,?_⟩)
 have hf:H1 s1.heap.objs.size=none:=I1.hok.fresh (Nat.le_refl _)
 refine ⟨.ref s1.heap.objs.size,upd H1 s1.heap.objs.size (.lst xs),I1.laid (t':=s1.toks) (fun b u e=>Heap.get?_push_of_some _ e) (Nat.le_refl _) ?_,rfl,q _ hf⟩
 exact ⟨z,us,0,r,Heap.get?_push_size _ rfl⟩
end
abbrev Sp:=List V→Hp→VK→XK→Prop
abbrev CXT:=List Env→Hp→Shared→XK→Value→Shared→Prop
structure Env0 (P:Program) (w:World) (K:PySem.W.Frag) (mg:Str→Option Value) (base:Heap) (A:Around) (outer:List Env) (s:Shared) (H:Hp):Prop where
 frames:A.frames=some outer
 mod:Mod K mg base
 bs:∀ b o,base.get? b=some o→s.heap.get? b=some o∧H b=none
 bsz:base.objs.size≤s.heap.objs.size
 funs:s.heap.FunFrames base outer
 frf:∀ b∈frs outer,H b=none
 hok:HOk P w H s.heap
 bare:AllBare s.gens
def CE (outer:List Env) (P:Program) (w:World) (H:Hp) (s:Shared) (Q:VK) (u:Value) (s':Shared):Prop:=
 ∃ v H',s'.os=s.os∧AllBare s'.gens∧Un (frs outer) [] H H' s.heap s'.heap∧HOk P w H' s'.heap∧RelV v u∧Q v H'
def CR (CX:CXT) (outer:List Env) (P:Program) (w:World) (H:Hp) (s:Shared) (Q:VK) (E:XK) (r:Result) (s':Shared):Prop:=
 match r with
 | .ok (.ret u)=>CE outer P w H s Q u s'
 | .ok _=>False
 | .error e=>CX outer H s E e s'
structure dY (P:Program) (w:World) (K:PySem.W.Frag) (mg:Str→Option Value) (base:Heap) (CX:CXT) (k:Nat) (f:Addr) (fd:FuncData) (ps:List Str) (sp:Sp):Prop where
 len:∀ vs H Q E,sp vs H Q E→vs.length=ps.length
 run:∀ (A:Around) (outer:List Env) (s:Shared) (H:Hp) (args:Args) (us:List Value) (vs:List V) (Q:VK) (E:XK),bC k A→Env0 P w K mg base A outer s H→BindsTo s fd args (ps.zip us)→aQ vs us→sp vs H Q E→
  codeAny (model P w) A (.call (.ref f) args) (CR CX outer P w H s Q E) s
theorem dY.imp {P:Program} {w:World} {K:PySem.W.Frag} {mg:Str→Option Value} {base:Heap} {CX:CXT} {k:Nat} {f:Addr} {fd:FuncData} {ps:List Str} {sp sp':Sp} (F:dY P w K mg base CX k f fd ps sp)
  (h:∀ vs H Q E,sp' vs H Q E→sp vs H Q E):dY P w K mg base CX k f fd ps sp':=
 ⟨fun vs H Q E q=>F.len vs H Q E (h _ _ _ _ q),fun A outer s H args us vs Q E hr he hb hv hs=>F.run A outer s H args us vs Q E hr he hb hv (h _ _ _ _ hs)⟩
theorem Env0.make {P:Program} {w:World} {K:PySem.W.Frag} {mg:Str→Option Value} {base:Heap} {A:Around} {outer:List Env} {s:Shared} {H:Hp} (e:Env0 P w K mg base A outer s H) (C:Addr) (us:List Value) (kw:List (Str×Value)) :
 Env0 P w K mg base (A.under (.builtin "type.__call__" ⟨.ref C::us,kw⟩)) outer s H:=⟨by first | exact e.frames | (simpa [Around.under,Code.envs,Code.isFrame,pushEnvs] using e.frames),e.mod,e.bs,e.bsz,e.funs,e.frf,e.hok,e.bare⟩
section
variable {X:Cx} {pins:List (Addr×Obj)} {σ:St} {H:Hp} {s s':Shared}
theorem Inv.env0 (I:Inv X pins σ H s):Env0 X.prog X.w X.K X.mg X.base X.A X.stack s H:=
 ⟨I.ok.frames,I.ok.mod,I.bs,Nat.le_trans I.ok.bsz I.sz,I.stack,I.stkFree,I.hok,I.bare⟩
theorem Inv.after {Q:VK} {u:Value} (I:Inv X pins σ H s) (h:CE X.stack X.prog X.w H s Q u s'):EP X pins σ Q u s':=by
 obtain ⟨v,H',os,bare,un,hok,r,q⟩:=h
 obtain ⟨hh,g,d,t,os'⟩:=s'
 obtain rfl:os'=s.os:=os
 exact ⟨v,H',I.call (h':=hh) (g':=g) (d':=d) (t':=t) (ch:=[]) un hok bare (fun b z=>absurd z (by simp)),r,q⟩
end
def tCall (sp:Sp) (dvs:List V) (E:XK) (t:TA):TE:=fun σ H Q=>t σ H fun vs H1=>sp (vs++dvs) H1 Q E
def tMeth (C:Addr) (m:Str) (sp:Sp) (dvs:List V) (E:XK) (ta:TE) (t:TA):TE:=fun σ H Q=>ta σ H fun x H1=>∃ a dx fs,x=.ref a∧H1 a=some (.ins C dx fs)∧fs.lookup m=none∧
 t σ H1 fun vs H2=>sp (x::(vs++dvs)) H2 Q E
def tMake (C:Addr) (sp:Sp) (dvs:List V) (E:XK) (t:TA):TE:=fun σ H Q=>t σ H fun vs H1=>∀ x dx,H1 x=none→H1 dx=none→dx≠x→
 sp (.ref x::(vs++dvs)) (upd (upd H1 dx (.own x)) x (.ins C dx [])) (fun v H2=>v=.non∧Q (.ref x) H2) E
def Binds (K:PySem.W.Frag) (fd:FuncData) (ps:List Str) (ds:List Value):Prop:=
 ∀ (s:Shared) (us:List Value),K.In s.heap→(us++ds).length=ps.length→BindsTo s fd ⟨us,[]⟩ (ps.zip (us++ds))
theorem Binds.all {K:PySem.W.Frag} {fd:FuncData} {ps:List Str} (h:∀ us:List Value,us.length=ps.length→bindArgs fd ⟨us,[]⟩=pure (ps.zip us)):Binds K fd ps []:=fun s us _ hl=>by
 rw [List.append_nil] at hl ⊢
 exact .of_eq (h us hl)
def ie (CX:CXT) (X:Cx) (E:XK):Prop:=∀ (pins:List (Addr×Obj)) (σ:St) (H:Hp) (s:Shared) (e:Value) (s':Shared),Inv X pins σ H s→CX X.stack H s E e s'→X.xe e s'
section
variable {X:Cx} {CX:CXT} {k:Nat} {f C:Addr} {fd:FuncData} {ps:List Str} {sp:Sp} {dvs:List V} {ds:List Value} {E:XK} {x m:Str} {p pos apos:Pos} {e o:Expr} {es:List Expr} {ta:TE} {t:TA}
theorem run_fn {pins:List (Addr×Obj)} {σ:St} {H:Hp} {s:Shared} {Q:VK} {us:List Value} {vs:List V} (F:dY X.prog X.w X.K X.mg X.base CX k f fd ps sp) (hr:bC k X.A) (hb:Binds X.K fd ps ds) (hd:aQ dvs ds) (hx:ie CX X E)
  (I:Inv X pins σ H s) (r:aQ vs us) (h:sp (vs++dvs) H Q E):wpAny (model X.prog X.w) X.A (call (.ref f) us) (EP X pins σ Q) X.xe s:=by
 have r2:aQ (vs++dvs) (us++ds):=r.append hd
 have hl:(us++ds).length=ps.length:=by rw [←r2.length];exact F.len _ _ _ _ h
 refine wpAny_call (codeAny_mono (F.run X.A X.stack s H ⟨us,[]⟩ (us++ds) (vs++dvs) Q E hr I.env0 (hb s us I.kIn hl) r2 h) fun r s' hq=>?_)
 cases r with
 | error e=>exact hx pins σ H s e s' I hq
 | ok fl=>
  cases fl with
  | ret u=>exact I.after hq
  | next=>exact False.elim hq
  | brk=>exact False.elim hq
  | cont=>exact False.elim hq
theorem mK (F:dY X.prog X.w X.K X.mg X.base CX k f fd ps sp) (hr:bC k X.A) (hg:Gl X x) (hm:X.mg x=some (.ref f)) (hk:PySem.W.keepIn X.K (.ref f)=true) (hb:Binds X.K fd ps ds) (hd:aQ dvs ds) (hx:ie CX X E)
  (ha:PA X (e::es) t) (hdb:(x==("__debug__" : Str))=false:=by decide) (he:starEach (e::es) X.env=(false,eval e X.env)::starEach es X.env:=by rfl) (hpl:(backTo pos (starEach es X.env)).any (·.1)=false:=by rfl) :
  PE X (.Call (.Name x p) (e::es) [] pos) (tCall sp dvs E t):=by
 intro pins s σ H Q I h
 refine wpAny_Call_Name_kw (mI I hg hm ?_ hdb)
 refine PySem.W.callWith_K (h₀:=X.base) I.ok.mod.kin hk (thn (ha pos pins s σ H _ I h) fun us s1 ⟨vs,H1,I1,r,q⟩=>⟨I1.kIn,?_⟩) he hpl
 exact run_fn F hr hb hd hx I1 r q
theorem pe_meth {pl:Sem Bool} (he:PE X o ta) (c:Cls X.K C) (hm:Meth X.K C m f) (F:dY X.prog X.w X.K X.mg X.base CX k f fd ps sp) (hr:bC k X.A) (hb:Binds X.K fd ps ds) (hd:aQ dvs ds) (hx:ie CX X E) (ha:PA X (e::es) t)
  (hst:starEach (e::es) X.env=(false,eval e X.env)::starEach es X.env:=by rfl) (hpl:(backTo pos (starEach es X.env)).any (·.1)=false:=by rfl)
  (ht:eval (.Call (.Attribute o m apos) (e::es) [] pos) X.env=(do
   let ov ←eval o X.env
   standAt apos.atName
   let (f,first) ←holding [ov] (getMethod ov m pl)
   callWith pos f first (backTo pos (starEach (e::es) X.env)) (backToKw pos (keywordEach [] X.env))):=by rfl) :
  PE X (.Call (.Attribute o m apos) (e::es) [] pos) (tMeth C m sp dvs E ta t):=by
 intro pins s σ H Q I h
 refine PySem.W.methodCall_KW (pl:=pl) (thn (he pins s σ H _ I h) fun u s1 ⟨x,H1,I1,rx,a,dx,fs,ex,ea,l,q⟩=>?_) ht
 subst ex
 obtain rfl:u=Value.ref a:=rx
 refine ic I1 ea c hm l ?_
 refine PySem.W.callWith_K (first:=[.ref a]) (h₀:=X.base) I.ok.mod.kin hm.kp (thn (ha pos pins s1 σ H1 _ I1 q) fun us s2 ⟨vs,H2,I2,r,q2⟩=>⟨I2.kIn,?_⟩) hst hpl
 exact run_fn (us:=.ref a::us) (vs:=.ref a::vs) F hr hb hd hx I2 (.cons rfl r) q2
theorem pe_meth0 {pl:Sem Bool} (he:PE X o ta) (c:Cls X.K C) (hm:Meth X.K C m f) (F:dY X.prog X.w X.K X.mg X.base CX k f fd ps sp) (hr:bC k X.A) (hb:Binds X.K fd ps ds) (hd:aQ dvs ds) (hx:ie CX X E)
  (ht:eval (.Call (.Attribute o m apos) [] [] pos) X.env=(do
   let ov ←eval o X.env
   standAt apos.atName
   let (f,first) ←holding [ov] (getMethod ov m pl)
   callWith pos f first (backTo pos (starEach [] X.env)) (backToKw pos (keywordEach [] X.env))):=by rfl) :
  PE X (.Call (.Attribute o m apos) [] [] pos) (tMeth C m sp dvs E ta tNil):=by
 intro pins s σ H Q I h
 refine PySem.W.methodCall_KW (pl:=pl) (thn (he pins s σ H _ I h) fun u s1 ⟨x,H1,I1,rx,a,dx,fs,ex,ea,l,q⟩=>?_) ht
 subst ex
 obtain rfl:u=Value.ref a:=rx
 refine ic I1 ea c hm l ?_
 exact PySem.W.callWith_K0 (first:=[.ref a]) I1.kIn hm.kp (run_fn (us:=[.ref a]) (vs:=[.ref a]) F hr hb hd hx I1 (.cons rfl .nil) q)
structure Mk (K:PySem.W.Frag) (C f:Addr):Prop where
 makes:PySem.W.makesIn K C=true
 init:PySem.W.findIn K (.ref C) "__init__" = some (some (.ref f))
 fn:PySem.W.isFn K (.ref f)=true
 kp:PySem.W.keepIn K (.ref C)=true
theorem run_make {pins:List (Addr×Obj)} {σ:St} {H:Hp} {s:Shared} {Q:VK} {us:List Value} {vs:List V} (M:Mk X.K C f) (F:dY X.prog X.w X.K X.mg X.base CX k f fd ps sp) (hr:bC (k+1) X.A) (hb:Binds X.K fd ps ds) (hd:aQ dvs ds)
  (hx:ie CX X E) (I:Inv X pins σ H s) (r:aQ vs us)
  (h:∀ x dx,H x=none→H dx=none→dx≠x→sp (.ref x::(vs++dvs)) (upd (upd H dx (.own x)) x (.ins C dx [])) (fun v H2=>v=.non∧Q (.ref x) H2) E) :
  wpAny (model X.prog X.w) X.A (call (.ref C) us) (EP X pins σ Q) X.xe s:=by
 have hq:=h (s.heap.objs.size+1) s.heap.objs.size (I.hok.fresh (Nat.le_succ _)) (I.hok.fresh (Nat.le_refl _)) (Nat.ne_of_lt (Nat.lt_succ_self _))
 have I2:=Inv.made (C:=C) I
 have r2:aQ (V.ref (s.heap.objs.size+1)::(vs++dvs)) (Value.ref (s.heap.objs.size+1)::(us++ds)):=.cons rfl (r.append hd)
 have hl:(Value.ref (s.heap.objs.size+1)::us++ds).length=ps.length:=by
  have e:=r2.length
  rw [F.len _ _ _ _ hq] at e
  exact e.symm
 refine wpAny_call (make_map (f:=f) I.kIn M.makes M.init (beq_iff_eq.mp M.fn) (codeAny_mono (F.run _ X.stack _ _ ⟨Value.ref (s.heap.objs.size+1)::us,[]⟩ (Value.ref (s.heap.objs.size+1)::(us++ds)) _ _ E (hr.make C us [])
  (I2.env0.make C us []) (hb _ (Value.ref (s.heap.objs.size+1)::us) I2.kIn hl) r2 hq) fun r s' hq'=>?_))
 cases r with
 | error e=>exact hx pins σ _ _ e s' I2 hq'
 | ok fl=>
  cases fl with
  | ret u=>
   obtain ⟨v,H',I3,rv,ev,q3⟩:=I2.after hq'
   subst ev
   exact ⟨rv,⟨V.ref (s.heap.objs.size+1),H',I3,rfl,q3⟩⟩
  | next=>exact False.elim hq'
  | brk=>exact False.elim hq'
  | cont=>exact False.elim hq'
theorem pe_make (M:Mk X.K C f) (F:dY X.prog X.w X.K X.mg X.base CX k f fd ps sp) (hr:bC (k+1) X.A) (hg:Gl X x) (hm:X.mg x=some (.ref C)) (hb:Binds X.K fd ps ds) (hd:aQ dvs ds) (hx:ie CX X E)
  (ha:PA X (e::es) t) (hdb:(x==("__debug__" : Str))=false:=by decide) (he:starEach (e::es) X.env=(false,eval e X.env)::starEach es X.env:=by rfl) (hpl:(backTo pos (starEach es X.env)).any (·.1)=false:=by rfl) :
  PE X (.Call (.Name x p) (e::es) [] pos) (tMake C sp dvs E t):=by
 intro pins s σ H Q I h
 refine wpAny_Call_Name_kw (mI I hg hm ?_ hdb)
 refine PySem.W.callWith_K (h₀:=X.base) I.ok.mod.kin M.kp (thn (ha pos pins s σ H _ I h) fun us s1 ⟨vs,H1,I1,r,q⟩=>⟨I1.kIn,?_⟩) he hpl
 exact run_make M F hr hb hd hx I1 r q
end
structure dZ (N P:List Str) (sc:Scope):Prop where
 kind:sc.kind=.function
 co:sc.isCoroutine=false
 gen:sc.isGenerator=false
 nd:N.Nodup
 pre:N.take P.length=P
 par:∀ x∈P,sc.names.lookup x=some .local∨sc.names.lookup x=some .cell
 nofree:∀ y∈sc.names,y.2≠.free
theorem lO {kindOf:Str→Option NameKind} {x:Str}:∀ {binds:List (Str×Value)} {m:Str→Option Value},(∀ v,(x,v)∉binds)→bindL kindOf binds m x=m x
  | [],_,_=>rfl
  | (n,v)::r,m,h=>by
    unfold bindL
    rw [lO fun w hw=>h w (List.mem_cons_of_mem _ hw)]
    split
    · have:x≠n:=by rintro rfl;exact h v List.mem_cons_self
      simp [this]
    · rfl
theorem lP {kindOf:Str→Option NameKind} {x:Str}:∀ {binds:List (Str×Value)} {m:Str→Option Value},(∀ v,(x,v)∉binds)→bindC kindOf binds m x=m x
  | [],_,_=>rfl
  | (n,v)::r,m,h=>by
    unfold bindC
    rw [lP fun w hw=>h w (List.mem_cons_of_mem _ hw)]
    split
    · rfl
    · have:x≠n:=by rintro rfl;exact h v List.mem_cons_self
      simp [this]
theorem lQ {kindOf:Str→Option NameKind} {x:Str} {v:Value}:∀ {P:List Str} {vs:List Value} {i:Nat} {m:Str→Option Value},P.Nodup→P[i]?=some x→vs[i]?=some v→kindOf x=some .local→
  bindL kindOf (P.zip vs) m x=some v
 | [],_,_,_,_,h,_,_=>by simp at h
 | _::_,[],_,_,_,_,h,_=>by simp at h
 | p::P,w::vs,0,m,nd,h1,h2,hk=>by
  simp at h1 h2;subst h1;subst h2
  show bindL kindOf ((p,w)::P.zip vs) m p=_
  unfold bindL
  rw [lO fun v hv=>(List.nodup_cons.mp nd).1 (List.of_mem_zip hv).1,if_pos hk]
  simp
 | p::P,w::vs,i+1,m,nd,h1,h2,hk=>by
  show bindL kindOf ((p,w)::P.zip vs) m x=_
  unfold bindL
  exact lQ (i:=i) (List.nodup_cons.mp nd).2 (by simpa using h1) (by simpa using h2) hk
theorem lR {kindOf:Str→Option NameKind} {x:Str} {v:Value}:∀ {P:List Str} {vs:List Value} {i:Nat} {m:Str→Option Value},P.Nodup→P[i]?=some x→vs[i]?=some v→kindOf x≠some .local→
  bindC kindOf (P.zip vs) m x=some v
 | [],_,_,_,_,h,_,_=>by simp at h
 | _::_,[],_,_,_,_,h,_=>by simp at h
 | p::P,w::vs,0,m,nd,h1,h2,hk=>by
  simp at h1 h2;subst h1;subst h2
  show bindC kindOf ((p,w)::P.zip vs) m p=_
  unfold bindC
  rw [lP fun v hv=>(List.nodup_cons.mp nd).1 (List.of_mem_zip hv).1,if_neg hk]
  simp
 | p::P,w::vs,i+1,m,nd,h1,h2,hk=>by
  show bindC kindOf ((p,w)::P.zip vs) m x=_
  unfold bindC
  exact lR (i:=i) (List.nodup_cons.mp nd).2 (by simpa using h1) (by simpa using h2) hk
def start (N:List Str) (vs:List V):St:=vs.map some++List.replicate (N.length-vs.length) none
def jZ (CX:CXT) (P:Program) (w:World) (K:PySem.W.Frag) (mg:Str→Option Value) (base:Heap) (N:List Str) (qual:Str) (scope:Scope) (f:Addr) (cd:Value) (A:Around) (outer:List Env) (s:Shared) (H:Hp) (E:XK):Cx where
 prog:=P
 w:=w
 K:=K
 mg:=mg
 base:=base
 A:=A.deeper (envOfC qual scope s.heap.objs.size f cd)
 N:=N
 s₀:=s
 H₀:=H
 env:=envOfC qual scope s.heap.objs.size f cd
 outer:=outer
 stack:=envOfC qual scope s.heap.objs.size f cd::outer
 ex:=[]
 calm:=true
 fn:=fun _=>true
 pn:=[]
 xe:=fun e s'=>wpAny (model P w) (A.deeper (envOfC qual scope s.heap.objs.size f cd)) (leaving (envOfC qual scope s.heap.objs.size f cd) e) (fun _ s''=>CX outer H s E e s'') (fun e' s''=>CX outer H s E e' s'') s'
theorem nO {sc:Scope} {n:Nat} {x:Str} (h:sc.names.lookup x=some .cell):∃ c,(cellsFrom n sc.names []).lookup x=some c:=by
 have q:=PySem.W.cellsFrom_some sc.names n [] (.inl h)
 exact Option.isSome_iff_exists.mp q
theorem inv_start {CX:CXT} {P:Program} {w:World} {K:PySem.W.Frag} {mg:Str→Option Value} {base:Heap} {N ps:List Str} {qual:Str} {scope:Scope} {f:Addr} {cd:Value} {A:Around} {outer:List Env} {s s1:Shared} {H:Hp} {E:XK} {us:List Value} {vs:List V}
  (S:dZ N ps scope) (hd:A.handled=none) (e0:Env0 P w K mg base A outer s H) (hl:vs.length=ps.length) (r:aQ vs us)
  (x:InCallC s s.heap.objs.size (bindL (envOfC qual scope s.heap.objs.size f cd).kindOf (ps.zip us) fun _=>none) (cellsFrom (s.heap.objs.size+1) scope.names []) (bindC (envOfC qual scope s.heap.objs.size f cd).kindOf (ps.zip us) fun _=>none) s1) :
  Inv (jZ CX P w K mg base N qual scope f cd A outer s H E) [] (start N vs) H s1:=by
 have hpl:ps.length≤N.length:=by have:=congrArg List.length S.pre;rw [List.length_take] at this;omega
 obtain ⟨h1,tk,rfl,hk⟩:=x.done
 have noA:∀ b:Addr,b∉(jZ CX P w K mg base N qual scope f cd A outer s H E).ex:=fun b z=>absurd (show b∈([]:List Addr) from z) (by simp)
 refine ⟨⟨e0.mod,S.kind,rfl,rfl,Nat.le_refl _,fun y z c h1 h2=>?_,fun y hy=>?_,fun y c _ h=>?_,fun _=>hd,Around.frames_deeper e0.frames,.inr ⟨rfl,rfl⟩,fun b z=>absurd z (noA b),e0.bs,e0.bsz,fun b _ _=>noA b,fun b z=>absurd z (noA b),e0.funs,e0.frf⟩,
  rfl,e0.bare,Un.kept hk,⟨_,x.toInCall.ns,fun i y v h1 h2 h3=>?_⟩,fun y c h=>⟨_,x.cell y c h⟩,e0.hok.fresh (Nat.le_refl _),fun y c h=>?_,fun p hp=>absurd (show p∈([]:List (Addr×Obj)) from hp) (by simp),e0.hok.kept hk,?_⟩
 ·
  exact name_of_addr x.apart (PySem.mem_of_lookup h1) (PySem.mem_of_lookup h2)
 ·
  have hy:scope.names.lookup y=some .cell∨scope.names.lookup y=some .free:=hy
  rcases hy with hy | hy
  ·
   exact nO hy
  ·
   exact absurd rfl (S.nofree _ (PySem.mem_of_lookup hy))
 ·
  exact Nat.le_of_lt (x.above y c (PySem.mem_of_lookup h))
 ·
  have hi:i<vs.length:=by
   unfold start at h2
   by_cases hi:i<vs.length
   ·
    exact hi
   ·
    rw [List.getElem?_append_right (by simpa using hi)] at h2
    rw [List.getElem?_replicate] at h2
    split at h2 <;> cases h2
  have ha:vs[i]?=some v:=by
   unfold start at h2
   rw [List.getElem?_append_left (by simpa using hi),List.getElem?_map] at h2
   cases e:vs[i]? with
   | none=>rw [e] at h2;cases h2
   | some a=>rw [e] at h2;cases h2;rfl
  obtain ⟨u,hu,rv⟩:=r.get ha
  have hp:ps[i]?=some y:=by
   rw [←S.pre,List.getElem?_take_of_lt (by omega)];exact h1
  have ndP:ps.Nodup:=by rw [←S.pre];exact S.nd.sublist (List.take_sublist _ _)
  refine ⟨u,rv,?_⟩
  rcases S.par y (List.mem_of_getElem? hp) with k | k
  ·
   exact .inl ⟨k,lQ ndP hp hu k⟩
  ·
   obtain ⟨c,e⟩:=nO (n:=s.heap.objs.size+1) k
   refine .inr ⟨.inl k,c,e,?_⟩
   have q:=x.cell y c e
   rw [lR ndP hp hu (by show scope.names.lookup y≠_;rw [k];decide)] at q
   exact q
 ·
  exact e0.hok.fresh (Nat.le_of_lt (x.above y c (PySem.mem_of_lookup h)))
 ·
  unfold start
  show _=N.length
  rw [List.length_append,List.length_map,List.length_replicate]
  omega
theorem fn_of {CX:CXT} {P:Program} {w:World} {K:PySem.W.Frag} {mg:Str→Option Value} {base:Heap} {k:Nat} {f:Addr} {name qual:Str} {params:Arguments} {body:List Stmt} {scope:Scope} {dV kV doc pm cdv ct oc:Value} {an od:Option Addr}
  {osl:Array (Option Value)} {N ps:List Str} {sp:Sp} (lk:K.lookup f=some ⟨oc,od,.func (PySem.W.fnOf name qual params body scope dV kV doc pm an cdv ct),osl⟩) (hcd:PySem.W.codeIn K cdv qual=true) (S:dZ N ps scope)
  (len:∀ vs H Q E,sp vs H Q E→vs.length=ps.length)
  (hbody:∀ (A:Around) (outer:List Env) (s:Shared) (H:Hp) (vs:List V) (Q:VK) (E:XK),bC k (A.deeper (envOfC qual scope s.heap.objs.size f cdv))→sp vs H Q E→
   ∃ t,PSs (jZ CX P w K mg base N qual scope f cdv A outer s H E) body t∧t { nx:=fun _ H'=>Q .non H',rt:=Q } (start N vs) H) :
  dY P w K mg base CX (k+1) f (PySem.W.fnOf name qual params body scope dV kV doc pm an cdv ct) ps sp:=by
 refine ⟨len,fun A outer s H args us vs Q E hr e0 hb r hsp=>?_⟩
 have hl:=len _ _ _ _ hsp
 have KX:K.In s.heap:=e0.mod.kin.keeps fun b o e=>(e0.bs b o e).1
 have lim:s.heap.NoLimit:=e0.mod.nolimit.keeps fun b o e=>(e0.bs b o e).1
 have hkind:∀ y∈ps.zip us,scope.names.lookup y.1=some .local∨(scope.names.lookup y.1=some .cell∧((cellsFrom (s.heap.objs.size+1) scope.names []).lookup y.1).isSome=true):=fun ⟨n,v⟩ hy=>by
  rcases S.par n (List.of_mem_zip hy).1 with q | q
  ·
   exact .inl q
  ·
   exact .inr ⟨q,PySem.W.cellsFrom_some _ _ _ (.inl q)⟩
 refine codeAny_call_function hr.depth (KX _ _ lk) rfl S.co S.gen rfl (PySem.W.codeRec_of KX hcd) (hb _ _ _ _ ?_)
 refine wpAny_newFunctionEnv_cells S.kind hkind fun env he s1 x=>?_
 subst he
 refine ⟨lim.keeps x.toInCall.keep,codeAny_func ?_⟩
 obtain ⟨t,ht,hq⟩:=hbody A outer s H vs Q E (hr.deeper _) hsp
 have I:Inv (jZ CX P w K mg base N qual scope f cdv A outer s H E) [] (start N vs) H s1:=inv_start S hr.hd e0 hl r x
 refine wpAny_mono (ht [] s1 (start N vs) H _ I hq) (fun fl s' hs=>?_) fun e s' hs=>hs
 have fin:∀ {σ':St} {H':Hp} {v:V} {u:Value},Inv (jZ CX P w K mg base N qual scope f cdv A outer s H E) [] σ' H' s'→RelV v u→Q v H'→CE outer P w H s Q u s':=
  fun {σ' H' v u} J rv q=>⟨v,H',J.os,J.bare,J.base,J.hok,rv,q⟩
 cases fl with
 | ret u=>
  obtain ⟨v,σ',H',J,rv,q⟩:=hs
  exact fin J rv q
 | next=>
  obtain ⟨σ',H',J,q⟩:=hs
  exact fin (v:=V.non) (u:=Value.none) J rfl q
 | brk=>
  obtain ⟨_,_,_,q⟩:=hs
  exact False.elim q
 | cont=>
  obtain ⟨_,_,_,q⟩:=hs
  exact False.elim q
end L2
namespace L2
open PySem PySem.Spec PyProof.Rows
section
variable {X:Cx} {x:Str} {p pos:Pos} {e:Expr} {es:List Expr} {t:TA} {id T:String} {r:List V→Hp→VK→Prop}
def tCB (r:List V→Hp→VK→Prop) (t:TA):TE:=fun σ H Q=>t σ H fun vs H1=>r vs H1 Q
theorem gj (hc:cz X (.builtin id) r) (hg:Gl X x) (hm:X.mg x=none) (hv:bootBuiltins x=some (.builtin id)) (ha:PA X (e::es) t) (hn:x≠"__name__":=by decide) (hdb:(x==("__debug__" : Str))=false:=by decide)
  (he:starEach (e::es) X.env=(false,eval e X.env)::starEach es X.env:=by rfl) (hpl:(backTo pos (starEach es X.env)).any (·.1)=false:=by rfl):PE X (.Call (.Name x p) (e::es) [] pos) (tCB r t):=by
 intro pins s σ H Q I h
 refine wpAny_Call_Name_kw (ib I hg hm hv ?_ hn hdb)
 exact PyProof.Rows.callWith_builtin1 (thn (ha pos pins s σ H _ I h) fun us s1 ⟨vs,H1,I1,r1,q1⟩=>hc pins s1 σ H1 vs us Q I1 r1 q1) he hpl
theorem gM (hc:cz X (.type T) r) (hg:Gl X x) (hm:X.mg x=none) (hv:bootBuiltins x=some (.type T)) (ha:PA X (e::es) t) (hn:x≠"__name__":=by decide) (hdb:(x==("__debug__" : Str))=false:=by decide)
  (he:starEach (e::es) X.env=(false,eval e X.env)::starEach es X.env:=by rfl) (hpl:(backTo pos (starEach es X.env)).any (·.1)=false:=by rfl):PE X (.Call (.Name x p) (e::es) [] pos) (tCB r t):=by
 intro pins s σ H Q I h
 refine wpAny_Call_Name_kw (ib I hg hm hv ?_ hn hdb)
 exact PyProof.Rows.callWith_type1 (thn (ha pos pins s σ H _ I h) fun us s1 ⟨vs,H1,I1,r1,q1⟩=>hc pins s1 σ H1 vs us Q I1 r1 q1) he hpl
end
end L2
namespace HT
open PySem PyProof.Rows
section
open PySem.SeqAt
open PySem.AutoSeq1 (wpAny_loadPart')
open PySem.MeetsSeq PySem.MeetsSeq2 PySem.MeetsSeq3
end
section
variable {prog:Program} {w:World} {A:Around} {E:Value→Shared→Prop} {s:Shared}
def sIx (n d:Nat):Option Int→Nat
 | none=>d
 | some v=>if v<0 then (v+(n:Int)).toNat else min v.toNat n
end
end HT
namespace L2
open PySem PySem.Spec PyProof.Rows
abbrev TO:=St→Hp→(Option Int→Hp→Prop)→Prop
def PO (X:Cx) (e:Option Expr) (t:TO):Prop:=
 ∀ (pins:List (Addr×Obj)) (s:Shared) (σ:St) (H:Hp) (Q:Option Int→Hp→Prop),Inv X pins σ H s→t σ H Q→
  wpAny (model X.prog X.w) X.A (evalPart e X.env) (fun u s'=>∃ o H',Inv X pins σ H' s'∧IsPart u o∧Q o H') X.xe s
def tNoPart:TO:=fun _ H Q=>Q none H
def tPart (t:TE):TO:=fun σ H Q=>t σ H fun x H1=>∃ i,x=.int i∧Q (some i) H1
section
variable {X:Cx} {e:Expr} {te:TE} {lo hi:Option Expr} {tl th:TO} {pos p2:Pos}
theorem po_none:PO X none tNoPart:=by
 intro pins s σ H Q I h
 rw [evalPart_none]
 exact wpAny_pure ⟨none,H,I,.none,h⟩
theorem po_some (h:PE X e te):PO X (some e) (tPart te):=by
 intro pins s σ H Q I hw
 rw [evalPart_some]
 refine thn (h pins s σ H _ I hw) fun u s1 ⟨x,H1,I1,r1,q1⟩=>?_
 obtain ⟨i,rfl,q⟩:=q1
 obtain ⟨t,rfl⟩:=r1
 exact ⟨some i,H1,I1,.int i t,q⟩
def SlR (X:Cx) (r:V→Option Int→Option Int→Hp→VK→Prop):Prop:=
 ∀ (pins:List (Addr×Obj)) (s:Shared) (σ:St) (H:Hp) (x:V) (v vl vu:Value) (lo hi:Option Int) (sl:Addr) (Q:VK),Inv X pins σ H s→RelV x v→s.heap.IsSliceOf sl vl vu .none→IsPart vl lo→IsPart vu hi→r x lo hi H Q→
  ∃ T id,typeLookup (.type T) "__getitem__" = pure (some (.builtin id))∧s.TypeIs v T∧wpAny (model X.prog X.w) X.A (getItem v (.ref sl)) (EP X pins σ Q) X.xe s
def tSl (r:V→Option Int→Option Int→Hp→VK→Prop) (te:TE) (tl th:TO):TE:=fun σ H Q=>te σ H fun x H1=>tl σ H1 fun l H2=>th σ H2 fun u H3=>r x l u H3 Q
theorem pe_slice {r:V→Option Int→Option Int→Hp→VK→Prop} (hr:SlR X r) (he:PE X e te) (hl:PO X lo tl) (hu:PO X hi th):PE X (.Subscript e (.Slice lo hi none p2) pos) (tSl r te tl th):=by
 intro pins s σ H Q I h
 refine Subscript_ (thn (he pins s σ H _ I h) fun v s1 ⟨x,H1,I1,r1,q1⟩=>?_)
 refine wpAny_Slice (thn (hl pins s1 σ H1 _ I1 q1) fun vl s2 ⟨l,H2,I2,pl,q2⟩=>thn (hu pins s2 σ H2 _ I2 q2) fun vu s3 ⟨u,H3,I3,pu,q3⟩=>?_)
 rw [evalPart_none]
 refine wpAny_pure ?_
 have I4:Inv X pins σ H3 { s3 with heap:=s3.heap.push { cls:=.type "slice",data:=.fields #[vl,vu,.none] } }:=I3.kept (t':=s3.toks) fun b ob q=>Heap.get?_push_of_some _ q
 obtain ⟨T,id,hT,ht,hg⟩:=hr pins { s3 with heap:=s3.heap.push { cls:=.type "slice",data:=.fields #[vl,vu,.none] } } σ H3 x v vl vu l u s3.heap.objs.size Q I4 r1 (Heap.IsSliceOf.new ..) pl pu q3
 show wpAny (model X.prog X.w) X.A (subscriptTail e (.Slice lo hi none p2) v (.ref s3.heap.objs.size)) (EP X pins σ Q) X.xe { s3 with heap:=s3.heap.push { cls:=.type "slice",data:=.fields #[vl,vu,.none] } }
 exact tail_any (ops:=[.ref s3.heap.objs.size,v]) ht hT hg (by with_unfolding_all rfl)
def cutV (xs:List V) (lo hi:Option Int):List V:=(xs.drop (HT.sIx xs.length 0 lo)).take (HT.sIx xs.length xs.length hi-HT.sIx xs.length 0 lo)
theorem nP (xs:List V) (lo hi:Option Int):(cutV xs lo hi).length≤xs.length:=by
 unfold cutV
 rw [List.length_take,List.length_drop]
 omega
end
end L2
namespace L2
open PySem PySem.Spec PyProof.Rows
def ixN (n:Nat) (i:Int):Option Nat:=if 0≤i then (if i<n then some i.toNat else none) else if -(n:Int)≤i then some (i+n).toNat else none
def atI {α:Type} (xs:List α) (i:Int):Option α:=(ixN xs.length i).bind fun j=>xs[j]?
theorem ixN_seq {n:Nat} {i:Int} {j:Nat} (h:ixN n i=some j):seqIndex? i n=some j∧j<n∧-(n:Int)≤i∧i<n:=by
 unfold ixN at h
 by_cases h0:0≤i
 ·
  rw [if_pos h0] at h
  by_cases h1:i<n
  ·
   rw [if_pos h1] at h
   have e:i.toNat=j:=Option.some.inj h
   exact ⟨by rw [seqIndex_of h0 h1,e],by omega,by omega,h1⟩
  ·
   rw [if_neg h1] at h;cases h
 ·
  rw [if_neg h0] at h
  by_cases h1:-(n:Int)≤i
  ·
   rw [if_pos h1] at h
   have e:(i+n).toNat=j:=Option.some.inj h
   exact ⟨by rw [seqIndex_neg (by omega) h1,e],by omega,h1,by omega⟩
  ·
   rw [if_neg h1] at h;cases h
theorem atI_get {α:Type} {xs:List α} {i:Int} {v:α} (h:atI xs i=some v):∃ j,seqIndex? i xs.length=some j∧xs[j]?=some v∧j<xs.length∧-(xs.length:Int)≤i∧i<xs.length:=by
 unfold atI at h
 cases e:ixN xs.length i with
 | none=>rw [e] at h;cases h
 | some j=>
  rw [e] at h
  obtain ⟨h1,h2,h3,h4⟩:=ixN_seq e
  exact ⟨j,h1,h,h2,h3,h4⟩
def kq (b:Expr):Prop:=∀ o i,subscripted b false o i=operate [o,i] (getItem o i)
def IxR (X:Cx) (r:R2):Prop:=
 ∀ (value slice:Expr) (pins:List (Addr×Obj)) (s:Shared) (σ:St) (H:Hp) (x y:V) (v u:Value) (Q:VK),Inv X pins σ H s→RelV x v→RelV y u→r x y H Q→
  subscripted slice false v u=operate [v,u] (getItem v u)→wpAny (model X.prog X.w) X.A (subscriptTail value slice v u) (EP X pins σ Q) X.xe s
def MtR (X:Cx) (id:String) (r:V→List V→Hp→VK→Prop):Prop:=
 ∀ (pins:List (Addr×Obj)) (s:Shared) (σ:St) (H:Hp) (x:V) (xs:List V) (v:Value) (us:List Value) (Q:VK),Inv X pins σ H s→RelV x v→aQ xs us→r x xs H Q→
  wpAny (model X.prog X.w) X.A (call (.builtin id) (v::us)) (EP X pins σ Q) X.xe s
section
variable {X:Cx} {a b:Expr} {ta tb:TE} {pos:Pos}
theorem pe_ix {r:R2} (hr:IxR X r) (ha:PE X a ta) (hb:PE X b tb) (hs:kq b):PE X (.Subscript a b pos) (tOp r ta tb):=by
 intro pins s σ H Q I h
 exact Subscript_ (binT ha hb I h fun v u s2 x y H2 I2 rx ry q=>hr a b pins s2 σ H2 x y v u Q I2 rx ry q (hs _ _))
def rIxL (K:PySem.W.Frag):R2:=fun x y H Q=>∃ p xs i v,x=.ref p∧y=.int i∧SqL K H p xs∧atI xs i=some v∧Q v H
def rIxT (K:PySem.W.Frag):R2:=fun x y H Q=>∃ p xs i v,x=.ref p∧y=.int i∧SqT K H p xs∧atI xs i=some v∧Q v H
theorem ix_list:IxR X (rIxL X.K):=by
 intro value slice pins s σ H x y v u Q I rx ry h hs
 obtain ⟨p,xs,i,z,rfl,rfl,hq,he,q⟩:=h
 cases rx
 obtain ⟨t,rfl⟩:=ry
 obtain ⟨its,r,pl,hz⟩:=I.list hq
 obtain ⟨j,h1,h2,h3,h4,h5⟩:=atI_get he
 obtain ⟨w,ew,rw'⟩:=r.get h2
 have hl:=r.length
 have hn:=mJ
 have fin:EP X pins σ Q w s:=⟨z,H,I,rw',q⟩
 by_cases h0:0≤i
 ·
  have hj:i.toNat=j:=by
   rw [seqIndex_of h0 h5] at h1
   exact Option.some.inj h1
  exact item_listR pl.isList h0 (by omega) (by rw [hj];simpa using ew) fin hs
 ·
  have hj:(i+(its.toArray.size:Int)).toNat=j:=by
   rw [seqIndex_neg (by omega) h4] at h1
   rw [List.size_toArray,←hl]
   exact Option.some.inj h1
  exact subscriptTail_builtinR (x:=w) pl.isList.typeIs slot_list_getitem.lookup
   (wpAny_getItem_list_neg (Q:=fun r s'=>r=w∧EP X pins σ Q r s') pl.isList (by omega) (by rw [List.size_toArray] <;> omega) (by omega) (by rw [hj];simpa using ew) ⟨rfl,fin⟩) hs
theorem ix_tup:IxR X (rIxT X.K):=by
 intro value slice pins s σ H x y v u Q I rx ry h hs
 obtain ⟨p,xs,i,z,rfl,rfl,hq,he,q⟩:=h
 cases rx
 obtain ⟨t,rfl⟩:=ry
 obtain ⟨its,r,pl,hz⟩:=I.tuple hq
 obtain ⟨j,h1,h2,h3,h4,h5⟩:=atI_get he
 obtain ⟨w,ew,rw'⟩:=r.get h2
 have hl:=r.length
 have hn:=mJ
 have fin:EP X pins σ Q w s:=⟨z,H,I,rw',q⟩
 exact subscriptTail_builtinR (x:=w) pl.typeIs slot_tuple_getitem.lookup
  (getItem_tuple (j:=j) (Q:=fun r s'=>r=w∧EP X pins σ Q r s') pl (by omega) (by omega) (by rw [List.size_toArray,←hl];exact h1) (by simpa using ew) ⟨rfl,fin⟩) hs
theorem mL (lo hi:Option Int) (n:Nat):(sliceBounds lo hi none n).1=((HT.sIx n 0 lo:Nat):Int)∧(sliceBounds lo hi none n).2.1=((HT.sIx n n hi:Nat):Int)∧(sliceBounds lo hi none n).2.2=1:=by
 refine ⟨?_,?_,rfl⟩
 ·
  cases lo with
  | none=>simp [sliceBounds,HT.sIx]
  | some i=>
   simp only [sliceBounds,HT.sIx,Option.getD_none,show (1:Int)>0 by decide,if_true]
   by_cases h:i<0
   ·
    simp only [h,if_true] <;> omega
   ·
    simp only [h,if_false] <;> omega
 ·
  cases hi with
  | none=>simp [sliceBounds,HT.sIx]
  | some i=>
   simp only [sliceBounds,HT.sIx,Option.getD_none,show (1:Int)>0 by decide,if_true]
   by_cases h:i<0
   ·
    simp only [h,if_true] <;> omega
   ·
    simp only [h,if_false] <;> omega
theorem lC (its:List Value) (lo hi:Option Int):slicePick its.toArray lo hi none=((its.drop (HT.sIx its.length 0 lo)).take (HT.sIx its.length its.length hi-HT.sIx its.length 0 lo)).toArray:=by
 obtain ⟨h1,h2,h3⟩:=mL lo hi its.toArray.size
 unfold slicePick
 rw [h1,h2,h3]
 simp only [sliceRange_one,pick_run,List.size_toArray] <;> rfl
def rSlL (K:PySem.W.Frag):V→Option Int→Option Int→Hp→VK→Prop:=fun x lo hi H Q=>∃ a xs,x=.ref a∧SqL K H a xs∧∀ p,H p=none→Q (.ref p) (upd H p (.lst (cutV xs lo hi)))
theorem sl_list:SlR X (rSlL X.K):=by
 intro pins s σ H x v vl vu lo hi sl Q I rx hs pl pu h
 obtain ⟨a,xs,rfl,hx,q⟩:=h
 cases rx
 obtain ⟨its,r,ht,hz⟩:=I.list hx
 have hlen:=r.length
 refine ⟨"list",_,slot_list_getitem.lookup,ht.isList.typeIs,?_⟩
 refine wpAny_getItem_list_slice ht.isList hs pl pu .none (by simp) ?_ (by rw [List.size_toArray] <;> omega)
 rw [lC,←hlen]
 refine ⟨.ref s.heap.objs.size,_,I.laid (t':=s.toks) (o:=.lst (cutV xs lo hi)) (fun b ob q=>Heap.get?_push_of_some _ q) (Nat.le_refl _) ?_,rfl,q _ (I.hok.fresh (Nat.le_refl _))⟩
 exact ⟨Nat.le_trans (nP xs lo hi) hz,_,0,(r.drop (HT.sIx xs.length 0 lo)).take (HT.sIx xs.length xs.length hi-HT.sIx xs.length 0 lo),Heap.get?_push_size _ rfl⟩
theorem fK:cz X (.builtin "len") (fun xs H Q=>∃ p ys,xs=[.ref p]∧(SqL X.K H p ys∨SqT X.K H p ys)∧Q (.int ys.length) H):=by
 intro pins s σ H xs us Q I r h
 obtain ⟨p,ys,rfl,hq,q⟩:=h
 obtain ⟨u,rfl,rx⟩:=vals1 r
 cases rx
 have hn:=mJ
 rcases hq with hq | hq
 ·
  obtain ⟨its,r',pl,hz⟩:=I.list hq
  have hlen:=r'.length
  exact Calls.call_len_list pl.isList (by simp only [List.size_toArray] <;> omega) ⟨.int ys.length,H,I.tok _,⟨s.toks+1,by rw [List.size_toArray,hlen]⟩,q⟩
 ·
  obtain ⟨its,r',pl,hz⟩:=I.tuple hq
  have hlen:=r'.length
  exact len_tuple pl (by simp only [List.size_toArray] <;> omega) ⟨.int ys.length,H,I.tok _,⟨s.toks+1,by rw [List.size_toArray,hlen]⟩,q⟩
theorem mM:cz X (.builtin "len") (fun xs H Q=>∃ z,xs=[.str z]∧z.length≤sizeLine∧Q (.int z.length) H):=by
 intro pins s σ H xs us Q I r h
 obtain ⟨z,rfl,hz,q⟩:=h
 obtain ⟨u,rfl,t,rfl⟩:=vals1 r
 have hn:=mJ
 exact len_str (by omega) ⟨.int z.length,H,I.tok _,⟨_,rfl⟩,q⟩
theorem iC:cz X (.type "list") (fun xs H Q=>∃ p ys,xs=[.ref p]∧(SqL X.K H p ys∨SqT X.K H p ys)∧∀ l,H l=none→Q (.ref l) (upd H l (.lst ys))):=by
 intro pins s σ H xs us Q I r h
 obtain ⟨p,ys,rfl,hq,q⟩:=h
 obtain ⟨u,rfl,rx⟩:=vals1 r
 cases rx
 have fin:∀ (its:List Value),aQ ys its→ys.length≤sizeLine→∀ (h':Heap) (c':Nat),(∀ b o',s.heap.get? b=some o'→h'.get? b=some o')→
   h'.get? s.heap.objs.size=some { cls:=.type "list",dict:=none,data:=.seq its.toArray c',slots:=#[] }→EP X pins σ Q (.ref s.heap.objs.size) { s with heap:=h' }:=fun its r' hz h' c' kp e=>
  ⟨.ref s.heap.objs.size,_,I.laid (t':=s.toks) kp (Nat.le_refl _) (show cB X.prog X.w _ h' _ (.lst ys) from ⟨hz,its,c',r',e⟩),rfl,q _ (I.hok.fresh (Nat.le_refl _))⟩
 rcases hq with hq | hq
 ·
  obtain ⟨its,r',pl,hz⟩:=I.list hq
  have hlen:=r'.length
  obtain ⟨o,ho,hc,n,hd⟩:=pl.isList
  exact call_list_seq p (.inl rfl) ho hc hd (fun h' c' kp e=>fin its r' hz h' c' kp e) (by simp only [List.size_toArray] <;> omega)
 ·
  obtain ⟨its,r',pl,hz⟩:=I.tuple hq
  have hlen:=r'.length
  obtain ⟨o,ho,hc,n,hd⟩:=pl
  exact call_list_seq p (.inr rfl) ho hc hd (fun h' c' kp e=>fin its r' hz h' c' kp e) (by simp only [List.size_toArray] <;> omega)
def tyV (K:PySem.W.Frag) (T:String) (x:V) (H:Hp):Prop:=match x with
 | .str _=>T = "str"
 | .int _=>T = "int"
 | .ref p=>(T = "list"∧∃ xs,SqL K H p xs)∨(T = "tuple"∧∃ o,K.lookup p=some o∧o.cls=.type "tuple"∧o.dict=none)∨
  (T = "dict"∧((∃ kvs,H p=some (.dK kvs))∨∃ kvs,H p=some (.dT kvs)))∨(T = "set"∧∃ S n,H p=some (.set S n))
 | _=>False
theorem tyV_is {pins:List (Addr×Obj)} {σ:St} {H:Hp} {s:Shared} {T:String} {x:V} {v:Value} (I:Inv X pins σ H s) (r:RelV x v) (ty:tyV X.K T x H) :
  s.TypeIs v T∧∀ a,v=.ref a→∃ ob,s.heap.get? a=some ob∧ob.dict=none:=by
 cases x with
 | str z=>
  obtain ⟨t,rfl⟩:=r
  cases (show T = "str" from ty)
  exact ⟨typeIs_str s z t,fun _ e=>nomatch e⟩
 | int i=>
  obtain ⟨t,rfl⟩:=r
  cases (show T = "int" from ty)
  exact ⟨typeIs_int s i t,fun _ e=>nomatch e⟩
 | ref p=>
  cases r
  rcases ty with ⟨rfl,xs,hq⟩ | ⟨rfl,o,hk,hc,hd⟩ | ⟨rfl,hk⟩ | ⟨rfl,S,n,hk⟩
  ·
   obtain ⟨its,_,pl,_⟩:=I.list hq
   refine ⟨pl.isList.typeIs,fun a e=>?_⟩
   cases e
   obtain ⟨o,n,e,c,hd,_⟩:=pl
   exact ⟨o,e,hd⟩
  ·
   refine ⟨⟨o,I.kIn p o hk,hc⟩,fun a e=>?_⟩
   cases e
   exact ⟨o,I.kIn _ o hk,hd⟩
  ·
   have z:∃ o,s.heap.get? p=some o∧o.ExactDict:=by
    rcases hk with ⟨kvs,hk⟩ | ⟨kvs,hk⟩
    ·
     obtain ⟨_,_,_,_,o,_,_,e,ex,_⟩:=I.hok p _ hk
     exact ⟨o,e,ex⟩
    ·
     obtain ⟨_,_,_,_,o,_,_,e,ex,_⟩:=I.hok p _ hk
     exact ⟨o,e,ex⟩
   obtain ⟨o,e,ex⟩:=z
   refine ⟨⟨o,e,ex.1⟩,fun a e2=>?_⟩
   cases e2
   exact ⟨o,e,ex.2.1⟩
  ·
   obtain ⟨o,_,_,_,e,ex,_⟩:=I.hok p _ hk
   refine ⟨⟨o,e,ex.1⟩,fun a e2=>?_⟩
   cases e2
   exact ⟨o,e,ex.2.1⟩
 | _=>exact False.elim ty
def tBM0 (K:PySem.W.Frag) (T:String) (r:V→List V→Hp→VK→Prop) (to:TE):TE:=fun σ H Q=>to σ H fun x H1=>tyV K T x H1∧r x [] H1 Q
def tBM (K:PySem.W.Frag) (T:String) (r:V→List V→Hp→VK→Prop) (to:TE) (t:TA):TE:=fun σ H Q=>to σ H fun x H1=>tyV K T x H1∧t σ H1 fun xs H2=>r x xs H2 Q
variable {o e:Expr} {es:List Expr} {to:TE} {t:TA} {name:Str} {apos cpos:Pos} {T id:String} {r:V→List V→Hp→VK→Prop}
theorem pe_bm0 (pa:PlainAttrs T) (slot:Slot T name id) (hty:typeOf (.builtin id)=pure (.type "method_descriptor")) (hm:MtR X id r) (ho:PE X o to)
  (hbase:attributeBase o name X.env (eval o X.env)=eval o X.env:=by rfl) (hline:(apos.endLine==cpos.line)=true:=by rfl):PE X (.Call (.Attribute o name apos) [] [] cpos) (tBM0 X.K T r to):=by
 intro pins s σ H Q I h
 refine wpAny_Call_method0_late hbase hline (thn (ho pins s σ H _ I h) fun v s1 ⟨x,H1,I1,r1,ty,q1⟩=>?_)
 obtain ⟨h1,h2⟩:=tyV_is I1 r1 ty
 exact ⟨T,id,pa,slot,hty,h1,h2,Calls.callWith_builtin rfl (PySem.evalArgs_none (hm pins s1 σ H1 x [] v [] Q I1 r1 .nil q1))⟩
theorem pe_bm (pa:PlainAttrs T) (slot:Slot T name id) (hty:typeOf (.builtin id)=pure (.type "method_descriptor")) (hm:MtR X id r) (ho:PE X o to) (ha:PA X (e::es) t)
  (hbase:attributeBase o name X.env (eval o X.env)=eval o X.env:=by rfl)
  (hfew:((backTo cpos (starEach (e::es) X.env)).all (fun x=>!x.1)&&(backToKw cpos (keywordEach [] X.env)).all (fun x=>x.1.isSome)
   &&decide ((e::es).length+([]:List Keyword).length+(if ([]:List Keyword).isEmpty then 0 else 1)<30))=true:=by rfl)
  (hline:(apos.endLine==cpos.line)=true:=by rfl) (hs:starEach (e::es) X.env=(false,eval e X.env)::starEach es X.env:=by rfl) (hplain:(backTo cpos (starEach es X.env)).any (·.1)=false:=by rfl) :
  PE X (.Call (.Attribute o name apos) (e::es) [] cpos) (tBM X.K T r to t):=by
 intro pins s σ H Q I h
 refine wpAny_Call_method_late hbase hfew hline rfl (thn (ho pins s σ H _ I h) fun v s1 ⟨x,H1,I1,r1,ty,q1⟩=>?_)
 obtain ⟨h1,h2⟩:=tyV_is I1 r1 ty
 refine ⟨T,id,pa,slot,hty,h1,h2,?_⟩
 have hA:=ha cpos pins s1 σ H1 _ I1 q1
 rw [hs] at hA ⊢
 refine Calls.callWith_builtin (by show (false||(backTo cpos (starEach es X.env)).any (·.1))=false;rw [hplain] <;> rfl) (Calls.evalArgs_plain ?_)
 exact thn hA fun us s2 ⟨vs,H2,I2,r2,q2⟩=>hm pins s2 σ H2 x vs v us Q I2 r1 r2 q2
end
end L2
namespace L2
open PySem PySem.Spec PyProof.Rows
def MtM (X:Cx) (id:String) (r:V→List V→Hp→VK→Prop):Prop:=
 ∀ (pins:List (Addr×Obj)) (s:Shared) (σ:St) (H:Hp) (x:V) (xs:List V) (v:Value) (us:List Value) (Q:VK),Inv X pins σ H s→RelV x v→aQ xs us→r x xs H Q→
  wpAny (model X.prog X.w) X.A (call (.builtin id) (v::us)) (EP X pins σ Q) X.xe s
theorem aQ.one:∀ {x:V} {us:List Value},aQ [x] us→∃ u,us=[u]∧RelV x u
 | _,_,.cons r .nil=>⟨_,rfl,r⟩
theorem aQ.two:∀ {x y:V} {us:List Value},aQ [x,y] us→∃ u v,us=[u,v]∧RelV x u∧RelV y v
 | _,_,_,.cons r (.cons q .nil)=>⟨_,_,rfl,r,q⟩
theorem aQ.zero:∀ {us:List Value},aQ [] us→us=[]
 | _,.nil=>rfl
theorem aQ.dropLast {xs:List V} {us:List Value} (h:aQ xs us):aQ xs.dropLast us.dropLast:=by
 induction h with
 | nil=>exact .nil
 | cons r t ih=>
  cases t with
  | nil=>exact .nil
  | cons q t'=>exact .cons r ih
theorem aQ.reverse {xs:List V} {us:List Value} (h:aQ xs us):aQ xs.reverse us.reverse:=by
 induction h with
 | nil=>exact .nil
 | cons r t ih=>rw [List.reverse_cons,List.reverse_cons];exact aQ.append ih (.cons r .nil)
theorem aQ.rep {xs:List V} {us:List Value} (h:aQ xs us):∀ k:Nat,aQ (List.replicate k xs).flatten (List.replicate k us).flatten
 | 0=>.nil
 | k+1=>by
  rw [List.replicate_succ,List.replicate_succ,List.flatten_cons,List.flatten_cons]
  exact aQ.append h (aQ.rep h k)
theorem pf {α:Type} (l:List α):l.eraseIdx (l.length-1)=l.dropLast:=by
 induction l with
 | nil=>rfl
 | cons a r ih=>
  cases r with
  | nil=>rfl
  | cons b r=>
   have e:(a::b::r).length-1=((b::r).length-1)+1:=by
    have h1:(a::b::r).length=r.length+2:=rfl
    have h2:(b::r).length=r.length+1:=rfl
    omega
   rw [e,List.eraseIdx_cons_succ,ih]
   all_goals rfl
theorem foldl_rep (its:List Value):∀ (k:Nat) (acc:List Value),
  List.foldl (fun x1 x2=>x1++x2) acc.toArray (List.replicate k its.toArray)=(acc++(List.replicate k its).flatten).toArray
 | 0,acc=>by simp
 | k+1,acc=>by
  have e:acc.toArray++its.toArray=(acc++its).toArray:=by simp
  have e2:(acc++its)++(List.replicate k its).flatten=acc++(List.replicate (k+1) its).flatten:=by
   rw [List.replicate_succ,List.flatten_cons,List.append_assoc]
  rw [←e2,←foldl_rep its k (acc++its),←e,List.replicate_succ,List.foldl_cons]
section
variable {X:Cx} {pins:List (Addr×Obj)} {σ:St} {H:Hp} {s:Shared} {l b:Addr} {xs ys zs:List V}
theorem Inv.lset {its its':List Value} {n:Nat} {f:Array Value→Array Value} {t':Nat} (I:Inv X pins σ H s) (hH:H l=some (.lst xs))
  (e:s.heap.get? l=some { cls:=.type "list",data:=.seq its.toArray n }) (hf:f its.toArray=its'.toArray) (hv:aQ ys its') (hz:ys.length≤sizeLine) :
  Inv X pins σ (upd H l (.lst ys)) { s with heap:=s.heap.update l (Obj.mapSeq f),toks:=t' }:=by
 have q:=PySem.IsL.update e f
 rw [hf] at q
 refine I.write (x:=l) (e:=l) (by rw [hH];exact trivial) (.inl rfl) (fun b' u hb hu=>(Heap.get?_update_other s.heap (Obj.mapSeq f) (Ne.symm hb)).trans hu) ⟨_,q⟩ ?_
 exact ⟨hz,its',_,hv,q⟩
theorem Inv.lnew {its:List Value} {t':Nat} (I:Inv X pins σ H s) (hv:aQ ys its) (hz:ys.length≤sizeLine) :
  Inv X pins σ (upd H s.heap.objs.size (.lst ys)) { s with heap:=s.heap.push { cls:=.type "list",data:=.seq its.toArray },toks:=t' }:=
 I.laid (fun _ _ q=>Heap.get?_push_of_some _ q) (Nat.le_refl _) ⟨hz,its,0,hv,Heap.get?_push_size _ rfl⟩
theorem Inv.fresh (I:Inv X pins σ H s):H s.heap.objs.size=none:=I.hok.fresh (Nat.le_refl _)
theorem Inv.lstM (I:Inv X pins σ H s) (hH:H l=some (.lst xs)):xs.length≤sizeLine∧∃ (its:List Value) (n:Nat),aQ xs its∧xs.length=its.length∧s.heap.get? l=some { cls:=.type "list",data:=.seq its.toArray n }:=by
 obtain ⟨z,its,n,r,e⟩:=I.hok l _ hH
 exact ⟨z,its,n,r,r.length,e⟩
theorem nQ {n:Nat} (h:n≤sizeLine):Builtin.List.listTooLong n=false:=by
 unfold Builtin.List.listTooLong
 exact decide_eq_false (by omega)
end
section
variable {X:Cx}
def rAppend:V→List V→Hp→VK→Prop:=fun x vs H Q=>∃ l xs y,x=.ref l∧vs=[y]∧H l=some (.lst xs)∧xs.length<sizeLine∧Q .non (upd H l (.lst (xs++[y])))
theorem lS:MtM X "list.append" rAppend:=by
 intro pins s σ H x vs v us Q I rx rv h
 obtain ⟨l,xs,y,rfl,rfl,hH,hz,q⟩:=h
 cases rx
 obtain ⟨u,rfl,ru⟩:=rv.one
 obtain ⟨z,its,n,r,hl,e⟩:=I.lstM hH
 refine call_meets F.slot_list_append ⟨_,e,rfl⟩ F.entry_list_append (F.args_list_append_2 _ _) (PySem.list_append l its.toArray n u (by rw [List.size_toArray];omega)) ⟨e,?_⟩
 refine ⟨.non,_,I.lset (its':=its++[u]) hH e (by simp) (r.append (.cons ru .nil)) ?_,rfl,q⟩
 rw [List.length_append,List.length_singleton]
 omega
def rExtend:V→List V→Hp→VK→Prop:=fun x vs H Q=>∃ l b xs zs,x=.ref l∧vs=[.ref b]∧H l=some (.lst xs)∧H b=some (.lst zs)∧xs.length+zs.length≤sizeLine∧Q .non (upd H l (.lst (xs++zs)))
theorem mt_extend:MtM X "list.extend" rExtend:=by
 intro pins s σ H x vs v us Q I rx rv h
 obtain ⟨l,b,xs,zs,rfl,rfl,hH,hB,hz,q⟩:=h
 cases rx
 obtain ⟨u,rfl,ru⟩:=rv.one
 cases ru
 obtain ⟨z,its,n,r,hl,e⟩:=I.lstM hH
 obtain ⟨z2,its2,n2,r2,hl2,e2⟩:=I.lstM hB
 have hsz:its.toArray.size+its2.toArray.size≤sizeLine:=by rw [List.size_toArray,List.size_toArray];omega
 have hlong:¬(!its.toArray.isEmpty&&Builtin.List.listTooLong (its.toArray.size+its2.toArray.size))=true:=by
  rw [nQ hsz,Bool.and_false]
  exact Bool.false_ne_true
 refine call_meets F.slot_list_extend ⟨_,e,rfl⟩ F.entry_list_extend (F.args_list_extend_2 _ _)
  (AutoSeq1.list_extend_list_list_0 l its.toArray n b its2.toArray n2 hlong (by rw [List.size_toArray];omega) (by omega)) ⟨e,e2,?_⟩
 refine ⟨.non,_,I.lset (its':=its++its2) hH e (by simp) (r.append r2) ?_,rfl,q⟩
 rw [List.length_append]
 omega
def rPop:V→List V→Hp→VK→Prop:=fun x vs H Q=>∃ l xs y,x=.ref l∧vs=[]∧H l=some (.lst xs)∧xs[xs.length-1]?=some y∧Q y (upd H l (.lst xs.dropLast))
theorem mt_pop:MtM X "list.pop" rPop:=by
 intro pins s σ H x vs v us Q I rx rv h
 obtain ⟨l,xs,y,rfl,rfl,hH,hy,q⟩:=h
 cases rx
 have hus:=rv.zero
 subst hus
 obtain ⟨z,its,n,r,hl,e⟩:=I.lstM hH
 obtain ⟨u,hu,ru⟩:=r.get hy
 have hy':its.toArray[its.toArray.size-1]?=some u:=by
  show its.toArray[its.length-1]?=some u
  rw [←Array.getElem?_toList,←hl]
  exact hu
 refine call_meets F.slot_list_pop ⟨_,e,rfl⟩ F.entry_list_pop (F.args_list_pop_1 _) (MeetsSeq.list_pop_last l its.toArray n u hy' (by rw [List.size_toArray];omega)) ⟨e,?_⟩
 refine ⟨y,_,I.lset (its':=its.dropLast) hH e ?_ r.dropLast ?_,ru,q⟩
 ·
  show its.toArray.eraseIdxIfInBounds (its.toArray.size-1)=its.dropLast.toArray
  rw [List.size_toArray,List.eraseIdxIfInBounds_toArray,pf]
 ·
  rw [List.length_dropLast]
  omega
def rClear:V→List V→Hp→VK→Prop:=fun x vs H Q=>∃ l xs,x=.ref l∧vs=[]∧H l=some (.lst xs)∧Q .non (upd H l (.lst []))
theorem mt_clear:MtM X "list.clear" rClear:=by
 intro pins s σ H x vs v us Q I rx rv h
 obtain ⟨l,xs,rfl,rfl,hH,q⟩:=h
 cases rx
 have hus:=rv.zero
 subst hus
 obtain ⟨z,its,n,r,hl,e⟩:=I.lstM hH
 refine call_meets F.slot_list_clear ⟨_,e,rfl⟩ F.entry_list_clear (F.args_list_clear_1 _) (AutoSeq1.list_clear_list_0 l its.toArray n (by rw [List.size_toArray];omega)) ⟨e,?_⟩
 exact ⟨.non,_,I.lset (its':=[]) (ys:=[]) hH e rfl .nil (Nat.zero_le _),rfl,q⟩
def rCat:R2:=fun x y H Q=>∃ l b xs zs,x=.ref l∧y=.ref b∧H l=some (.lst xs)∧H b=some (.lst zs)∧xs.length+zs.length≤sizeLine∧∀ p,H p=none→Q (.ref p) (upd H p (.lst (xs++zs)))
theorem op_cat:OpR X (binaryOp .Add) rCat:=by
 intro pins s σ H x y v u Q I rx ry h
 obtain ⟨l,b,xs,zs,rfl,rfl,hH,hB,hz,q⟩:=h
 cases rx
 cases ry
 obtain ⟨z,its,n,r,hl,e⟩:=I.lstM hH
 obtain ⟨z2,its2,n2,r2,hl2,e2⟩:=I.lstM hB
 refine PySem.P.add_list e e2 ?_ (by rw [List.size_toArray,List.size_toArray];omega)
 have ea:its.toArray++its2.toArray=(its++its2).toArray:=by simp
 rw [ea]
 exact ⟨.ref _,_,I.lnew (t':=s.toks) (r.append r2) (by rw [List.length_append];omega),rfl,q _ I.fresh⟩
def rRep:R2:=fun x y H Q=>∃ l k xs,x=.ref l∧y=.int k∧H l=some (.lst xs)∧-(2 ^ 63)≤k∧k<2 ^ 63∧xs.length*k.toNat≤sizeLine∧
 ∀ p,H p=none→Q (.ref p) (upd H p (.lst (List.replicate k.toNat xs).flatten))
theorem len_rep {α:Type} (xs:List α) (k:Nat):(List.replicate k xs).flatten.length=k*xs.length:=by
 induction k with
 | zero=>simp
 | succ k ih=>rw [List.replicate_succ,List.flatten_cons,List.length_append,ih,Nat.succ_mul,Nat.add_comm]
theorem op_rep:OpR X (binaryOp .Mult) rRep:=by
 intro pins s σ H x y v u Q I rx ry h
 obtain ⟨l,k,xs,rfl,rfl,hH,h1,h2,hz,q⟩:=h
 cases rx
 obtain ⟨t,rfl⟩:=ry
 obtain ⟨z,its,n,r,hl,e⟩:=I.lstM hH
 have hlen:its.toArray.size*k.toNat≤sizeLine:=by rw [List.size_toArray,←hl];exact hz
 have hcap:¬its.toArray.size*k.toNat>(2 ^ 63-1) / 8:=by
  have:(sizeLine:Nat)≤(2 ^ 63-1) / 8:=by decide
  omega
 have hfit:¬(!Builtin.List.listFitsIndex k)=true:=by
  rw [fitsIndex_both h1 h2]
  exact Bool.false_ne_true
 have hlong:¬Builtin.List.listTooLong (its.toArray.size*k.toNat)=true:=by
  rw [nQ hlen]
  exact Bool.false_ne_true
 have hnew:List.foldl (fun x1 x2=>x1++x2) #[] (List.replicate (if its.toArray.isEmpty=true then 0 else k.toNat) its.toArray)=(List.replicate k.toNat its).flatten.toArray:=by
  have f0:∀ m:Nat,List.foldl (fun x1 x2=>x1++x2) #[] (List.replicate m its.toArray)=(List.replicate m its).flatten.toArray:=fun m=>by
   have:=foldl_rep its m []
   rw [List.nil_append] at this
   exact this
  rw [f0]
  cases its with
  | nil=>simp
  | cons a r'=>rw [if_neg (by simp)]
 refine wpAny_binaryOp_repeat_ref (T:="list") (U:="int") (by decide) ⟨_,e,rfl⟩ (fun s'=>typeIs_int s' k t) noFill_list_mul F.fills_int_mul F.slot_int_rmul repeat_list F.slot_int_index.lookup
  (call_meets F.slot_int_rmul (typeIs_int s k t) F.entry_int_rmul (F.args_int_rmul_2 _ _) (int___rmul___int_list k t l its.toArray n)
   ⟨e,rfl,⟨_,e,rfl⟩,call_meets F.slot_list_mul ⟨_,e,rfl⟩ F.entry_list_mul (F.args_list_mul_2 _ _) (AutoListH.list___mul___list_int_3 l its.toArray n k t hfit hcap hlong) ⟨e,?_⟩⟩)
 rw [hnew]
 exact ⟨.ref _,_,I.lnew (t':=s.toks) (r.rep k.toNat) (by rw [len_rep,Nat.mul_comm];exact hz),rfl,q _ I.fresh⟩
end
end L2
namespace Att
open PySem PySem.W PySem.Calls PyProof.Rows
theorem j0 {P:Params} {h:Heap}:∀ (ns:List Int) (vs:List Value),WellAll P h vs (ns.map WData.int)→IntsAre vs ns:=by
 intro ns
 induction ns with
 | nil=>
  intro vs w
  rw [List.map_nil] at w
  cases w
  exact .nil
 | cons n ns ih=>
  intro vs w
  rw [List.map_cons] at w
  cases w with
  | cons a b=>
   cases a
   exact .cons _ _ (ih _ b)
theorem script_of {l:OpenLaw} {n:Nat} (hn:l.most=some n) {P:Params} {h:Heap} {args:List WData} {vals:List Value}
    (hpre:l.row.toRowW.claim.pre args=true) (hwl:WellAll P h vals args) :
    ∃ a vs ns,vals=[Value.ref a]∧args=[WData.list (ns.map WData.int)]∧h.get? a=some { cls:=.type "list",data:=.seq vs.toArray }∧IntsAre vs ns∧ns.length≤n:=by
  have hsh:WShape.hasAll [] args [.list .int]=true:=(pre_splitW hpre).1
  have hc:l.pre.holds [] { args:=args }=true:=(pre_splitW hpre).2
  obtain ⟨d,r,rfl,h1,h2⟩:=hasAllW_cons hsh
  obtain rfl:=hasAllW_nil h2
  obtain ⟨xs,rfl,h3⟩:=hasW_list h1
  obtain ⟨ns,rfl⟩:=items_int h3
  have hlen:ns.length≤n:=by
    unfold OpenLaw.pre at hc
    have h4:(WTm.not (.lt (.lit (.int (n:Int))) (.len (.arg 0)))).holds [] { args:=[.list (ns.map .int)] }=true:=by
      have h4:=(holds_andW hc).1
      rw [hn] at h4
      exact h4
    have h5:=condW_of h4 (w_not (w_lt w_lit (w_len_list (w_arg rfl))))
    rw [List.length_map] at h5
    refine Nat.le_of_not_lt fun q=>?_
    have q':(n:Int)<((ns.length:Nat):Int):=by omega
    first
      | (rw [decide_eq_true q'] at h5;exact absurd h5 (by decide))
      | (simp at h5;omega)
  cases hwl with
  | cons w1 w2=>
    cases w2
    cases w1 with
    | list ho hall=>exact ⟨_,_,ns,rfl,rfl,ho,j0 ns _ hall,hlen⟩
theorem post_true (l:OpenLaw) (args:List WData):l.row.toRowW.claim.post args (.bool true) args=true:=
 postW_of (r:=l.row.toRowW) (X:=(true==true))
  (show WShape.has [] (.bool true) .bool=true by first | rfl | decide | simp [WShape.has,WShape.arms,WShape.armsAll])
  (show (WTm.eq .res (.lit (.bool true))).value [] { args:=args,res:=some (.bool true),after:=args }=some (.bool (true==true)) from w_eq_bool (w_res rfl) w_lit) rfl
theorem attach_call {l:OpenLaw} {n:Nat} {q:Program} {loose:List Str} {XP:(Str→Option Value)→Heap→Prop} {YP:World→Heap→Prop} {d:DefRec}
  (hn:l.most=some n) (hdf:d.params.defaults=[])
  (call:∀ (w:World) (s₀ s₁:Shared) (mg mb:Str→Option Value) (fa:Addr) (o:Obj) (pm cd doc:Value) (a:Addr) (vs:List Value) (ns:List Int),
   Ground q loose [] XP w s₀ mg mb s₁.heap→YP w s₁.heap→
   s₁.heap.get? fa=some o→o.data=.func (docDef d.name d.params d.body d.scope pm cd doc)→s₁.heap.CodeRec cd d.name→mg d.name=some (.ref fa)→
   s₁.heap.get? a=some { cls:=.type "list",data:=.seq vs.toArray }→IntsAre vs ns→ns.length≤n→s₁.gens=#[]→
   codeAny (model l.prog w) callerA (.call (.ref fa) ⟨[.ref a],[]⟩) (fun r s'=>r=.ok (.ret (.bool true))∧OldK s₁.heap s'.heap∧s'.os=s₁.os∧AllBare s'.gens) s₁) :
  WalkO q loose XP YP l.row.toRowW d [] (fun f vs=>PySem.call f vs):=by
 intro w s₀ s₁ mg mb G Y fa o pm cd doc dV kV ho hd hcd hD hmg hg args vals as hpre hlay hrd hwl hlo
 obtain rfl:dV=.none:=Dflts.none hD hdf
 obtain rfl:kV=.none:=Dflts.noKw hD
 obtain ⟨a,vs,ns,rfl,rfl,hobj,hints,hlen⟩:=script_of hn hpre hwl
 refine enter_call (codeAny_mono (call w s₀ s₁ mg mb fa o pm cd doc a vs ns G Y ho (fd_plain hd) hcd hmg hobj hints hlen hg) fun r s' hq=>?_)
 obtain ⟨rfl,h2,h3,h4⟩:=hq
 exact ⟨.inl ⟨.bool true,.bool true,[],rfl,fun _=>rfl,.bool true,post_true l _,fun _=>⟨List.Pairwise.nil,fun _ hm=>(nomatch hm)⟩⟩,h2,h3,h4⟩
end Att
namespace L2
open PySem PySem.Spec PyProof.Rows
theorem lT:∀ {vs:List Value} {ns:List Int},IntsAre vs ns→aQ (ns.map V.int) vs
 | _,_,.nil=>.nil
 | _,_,.cons n t h=>.cons ⟨t,rfl⟩ (lT h)
def Only (H:Hp):Prop:=∀ b,H b=none∨∃ o xs,H b=some (.frz o (.lst xs))
theorem law_call {P:Program} {w:World} {K:PySem.W.Frag} {mg mb:Str→Option Value} {CX:CXT} {k:Nat} {fa a:Addr} {fd:FuncData} {x:Str} {sp:Sp} {s₁:Shared} {vs:List Value} {ns:List Int}
  (KX:K.In s₁.heap) (hns:s₁.heap.Ns mainGlobals mg) (hb:s₁.heap.Ns builtinsNs mb) (hbb:∀ x:Str,x≠"__name__"→mb x=bootBuiltins x) (hlim:s₁.heap.NoLimit) (hg:s₁.gens=#[])
  (ha:s₁.heap.get? a=some { cls:=.type "list",data:=.seq vs.toArray }) (hi:IntsAre vs ns) (hl:ns.length≤sizeLine) (hr:bC k callerA)
  (F:∀ base:Heap,K.In base→base.Ns mainGlobals mg→dY P w K mg base CX k fa fd [x] sp) (hbind:∀ (s:Shared) (u:Value),BindsTo s fd ⟨[u],[]⟩ [(x,u)])
  (hsp:∀ H:Hp,Only H→SqL K H a (ns.map V.int)→sp [.ref a] H (fun v _=>v=.bl true) fun _ _ _=>False)
  (hCX:∀ H e s',CX [] H s₁ (fun _ _ _=>False) e s'→False) :
  codeAny (model P w) callerA (.call (.ref fa) ⟨[.ref a],[]⟩) (fun r s'=>r=.ok (.ret (.bool true))∧OldK s₁.heap s'.heap∧s'.os=s₁.os∧AllBare s'.gens) s₁:=by
 have rv:=lT hi
 have lenV:=hi.length
 have core:∀ H:Hp,Only H→SqL K H a (ns.map V.int)→HOk P w H s₁.heap→(∀ b,H b≠none→b=a)→(H a≠none→K.lookup a=none)→
   codeAny (model P w) callerA (.call (.ref fa) ⟨[.ref a],[]⟩) (fun r s'=>r=.ok (.ret (.bool true))∧OldK s₁.heap s'.heap∧s'.os=s₁.os∧AllBare s'.gens) s₁:=by
  intro H hO hS hok hA hK
  have base_of:∀ {b:Addr} {o:Obj},s₁.heap.get? b=some o→H b=none→(hidT s₁.heap H).get? b=some o:=fun e n=>hidT_get e n
  have noA:∀ {b:Addr} {o:Obj} {es:Array DictEntry} {ep:Nat},s₁.heap.get? b=some o→o.data=.dict es ep→H b=none:=fun {b o es ep} e d=>by
   cases q:H b with
   | none=>rfl
   | some u=>
    have e':b=a:=hA b (by rw [q];simp)
    subst e'
    rw [ha] at e;cases e
    have d':Data.seq vs.toArray _=Data.dict es ep:=d
    cases d'
  have nsK:∀ {b:Addr} {m:Str→Option Value},s₁.heap.Ns b m→(hidT s₁.heap H).Ns b m:=fun {b m} ⟨o,es,ep,e,d,r⟩=>⟨o,es,ep,base_of e (noA e d),d,r⟩
  have hKb:K.In (hidT s₁.heap H):=fun b o e=>base_of (KX b o e) (by
   cases q:H b with
   | none=>rfl
   | some u=>
    have e':b=a:=hA b (by rw [q];simp)
    subst e'
    rw [hK (by rw [q];simp)] at e;cases e)
  have hM:Mod K mg (hidT s₁.heap H):=⟨hKb,nsK hns,⟨mb,nsK hb,hbb⟩,let ⟨mc,h1,h2⟩:=hlim;⟨mc,nsK h1,h2⟩⟩
  have e0:Env0 P w K mg (hidT s₁.heap H) callerA [] s₁ H:=⟨rfl,hM,fun b o e=>of_hidT e,Nat.le_of_eq (hidT_size _ _),trivial,fun b hb=>absurd (show b∈([]:List Addr) from hb) (by simp),hok,.of_eq hg⟩
  refine codeAny_mono ((F _ hKb (nsK hns)).run callerA [] s₁ H ⟨[.ref a],[]⟩ [.ref a] [.ref a] _ _ hr e0 (hbind s₁ (.ref a)) (.cons rfl .nil) (hsp H hO hS)) fun r s' h=>?_
  cases r with
  | error e=>exact (hCX H e s' h).elim
  | ok fl=>
   cases fl with
   | next=>exact False.elim h
   | brk=>exact False.elim h
   | cont=>exact False.elim h
   | ret u=>
    obtain ⟨v,H',os,bare,un,hok',r',q⟩:=h
    have q':v=.bl true:=q
    subst q'
    obtain rfl:u=Value.bool true:=r'
    refine ⟨rfl,OldK.of_keep fun b o e=>?_,os,bare⟩
    cases q:H b with
    | none=>exact un.keep b o e q (by intro z;exact absurd (show b∈([]:List Addr) from z) (by simp)) (by simp)
    | some u=>
     rcases hO b with z | ⟨ob,xs,z⟩
     ·
      rw [q] at z;cases z
     ·
      have z2:=un.frzs b ob _ z
      obtain ⟨e1,_⟩:=hok b _ z
      obtain ⟨e2,_⟩:=hok' b _ z2
      rw [e] at e1;cases e1
      exact e2
 cases hk:K.lookup a with
 | some o=>
  have e:=KX a o hk
  rw [ha] at e
  cases e
  refine core (fun _=>none) (fun _=>.inl rfl) (.inr ⟨_,vs.toArray,_,hk,rfl,rfl,rfl,by rw [List.size_toArray,lenV];exact hl,by simpa using rv⟩) (fun b u z=>by have z':(none:Option HO)=some u:=z;cases z') (fun b z=>absurd rfl z) fun z=>absurd rfl z
 | none=>
  refine core (fun b=>if b=a then some (.frz { cls:=.type "list",data:=.seq vs.toArray } (.lst (ns.map V.int))) else none) (fun b=>?_) (.inl (.inr ⟨{ cls:=.type "list",data:=.seq vs.toArray },if_pos rfl⟩)) (fun b u z=>?_) (fun b z=>?_) fun _=>hk
  ·
   by_cases hb:b=a
   ·
    exact .inr ⟨_,_,if_pos hb⟩
   ·
    exact .inl (if_neg hb)
  ·
   by_cases hb:b=a
   ·
    have z':=(if_pos hb).symm.trans z
    cases z'
    subst hb
    exact ⟨ha,by rw [List.length_map];exact hl,vs,_,rv,ha⟩
   ·
    have z':=(if_neg hb).symm.trans z
    cases z'
  ·
   by_cases hb:b=a
   ·
    exact hb
   ·
    exact absurd (if_neg hb) z
end L2
namespace L2
open PySem PySem.Spec PyProof.Rows
abbrev KOf {K:PySem.W.Frag} {h:Heap} (_:K.In h):PySem.W.Frag:=K
theorem walk_of {l:PySem.W.OpenLaw} {n k:Nat} {q:Program} {loose:List Str} {XP:(Str→Option Value)→Heap→Prop} {YP:World→Heap→Prop} {d:DefRec} {K:Params→PySem.W.Frag} {CX:World→CXT} {sp:World→Sp} {x:Str}
  (hn:l.most=some n) (hn2:n≤sizeLine) (hdf:d.params.defaults=[]) (hr:bC k callerA)
  (hY:∀ (w:World) (h:Heap),YP w h→(K w.params).In h)
  (F:∀ (w:World) (mg:Str→Option Value) (fa:Addr) (h:Heap),(K w.params).In h→h.Ns mainGlobals mg→mg d.name=some (.ref fa)→
   ∃ fd:FuncData,(∀ (s:Shared) (u:Value),BindsTo s fd ⟨[u],[]⟩ [(x,u)])∧
    ∀ base:Heap,(K w.params).In base→base.Ns mainGlobals mg→dY l.prog w (K w.params) mg base (CX w) k fa fd [x] (sp w))
  (hsp:∀ (w:World) (H:Hp) (a:Addr) (ns:List Int),ns.length≤n→Only H→SqL (K w.params) H a (ns.map V.int)→sp w [.ref a] H (fun v _=>v=.bl true) fun _ _ _=>False)
  (hCX:∀ (w:World) (H:Hp) (s:Shared) (e:Value) (s':Shared),CX w [] H s (fun _ _ _=>False) e s'→False) :
  PySem.W.WalkO q loose XP YP l.row.toRowW d [] (fun f vs=>PySem.call f vs):=by
 refine Att.attach_call hn hdf fun w s₀ s₁ mg mb fa o pm cd doc a vs ns G Y ho hd hcd hmg hobj hints hlen hg=>?_
 have KX:=hY w _ Y
 obtain ⟨fd,hb,hF⟩:=F w mg fa _ KX G.T.g hmg
 exact law_call KX G.T.g G.T.b G.T.builtins G.T.nolimit hg hobj hints (Nat.le_trans hlen hn2) hr hF hb (fun H hO hS=>hsp w H a ns hlen hO hS) fun H e s'=>hCX w H s₁ e s'
theorem walk_ofK {l:PySem.W.OpenLaw} {n k:Nat} {q:Program} {loose:List Str} {XP:(Str→Option Value)→Heap→Prop} {YP:World→Heap→Prop} {d:DefRec} {K:Params→PySem.W.Frag} {CX:CXT} {sp:PySem.W.Frag→Sp} {x:Str}
  (hn:l.most=some n) (hn2:n≤sizeLine) (hdf:d.params.defaults=[]) (hr:bC k callerA)
  (hY:∀ (w:World) (h:Heap),YP w h→(K w.params).In h)
  (F:∀ (w:World) (mg:Str→Option Value) (fa:Addr) (h:Heap),(K w.params).In h→h.Ns mainGlobals mg→mg d.name=some (.ref fa)→
   ∃ fd:FuncData,(∀ (s:Shared) (u:Value),BindsTo s fd ⟨[u],[]⟩ [(x,u)])∧
    ∀ base:Heap,(K w.params).In base→base.Ns mainGlobals mg→dY l.prog w (K w.params) mg base CX k fa fd [x] (sp (K w.params)))
  (hsp:∀ (K:PySem.W.Frag) (H:Hp) (a:Addr) (ns:List Int),ns.length≤n→Only H→SqL K H a (ns.map V.int)→sp K [.ref a] H (fun v _=>v=.bl true) fun _ _ _=>False)
  (hCX:∀ (H:Hp) (s:Shared) (e:Value) (s':Shared),CX [] H s (fun _ _ _=>False) e s'→False) :
  PySem.W.WalkO q loose XP YP l.row.toRowW d [] (fun f vs=>PySem.call f vs):=
 walk_of (K:=K) (CX:=fun _=>CX) (sp:=fun w=>sp (K w.params)) hn hn2 hdf hr hY F (fun w H a ns h1 h2 h3=>hsp (K w.params) H a ns h1 h2 h3) fun _ H s e s'=>hCX H s e s'
end L2
namespace L2
open PySem PySem.Spec PyProof.Rows
def inClass (s:Stmt) (j:Nat):Stmt:=match s with
 | .ClassDef _ _ _ body _ _ _ _ _ _ _=>body.getD j (.Pass ⟨0,0,0,0⟩)
 | _=>.Pass ⟨0,0,0,0⟩
def bp (s:Stmt):Arguments:=match s with
 | .FunctionDef _ a _ _ _ _ _ _ _ _=>a
 | _=>{ posonlyargs:=[],args:=[],vararg:=none,kwonlyargs:=[],kw_defaults:=[],kwarg:=none,defaults:=[] }
def aS (s:Stmt):List Stmt:=match s with
 | .FunctionDef _ _ b _ _ _ _ _ _ _=>b
 | _=>[]
def aw (s:Stmt):Scope:=match s with
 | .FunctionDef _ _ _ _ _ _ sc _ _ _=>sc
 | _=>{ kind:=.function,names:=[],isGenerator:=false,isCoroutine:=false }
abbrev CX0:CXT:=fun _ _ _ _ _ _=>False
abbrev E0:XK:=fun _ _ _=>False
theorem lU {X:Cx}:ie CX0 X E0:=fun _ _ _ _ _ _ _ h=>h.elim
structure Fun (K:PySem.W.Frag) (x qual:Str) (st:Stmt) (f:Addr) (fd:FuncData):Prop where
 ex:∃ (oc:Value) (od:Option Addr) (kV doc pm:Value) (an:Option Addr) (cdv ct:Value) (osl:Array (Option Value)),
  fd=PySem.W.fnOf x qual (bp st) (aS st) (aw st) .none kV doc pm an cdv ct∧K.lookup f=some ⟨oc,od,.func fd,osl⟩∧PySem.W.codeIn K cdv qual=true
 kp:PySem.W.keepIn K (.ref f)=true
section
variable {P:Program} {w:World} {K:PySem.W.Frag} {mg:Str→Option Value} {base:Heap}
theorem Fun.ok {x qual:Str} {st:Stmt} {f:Addr} {fd:FuncData} {N ps:List Str} {k:Nat} {sp:Sp} (F:Fun K x qual st f fd) (S:dZ N ps (aw st)) (len:∀ vs H Q E,sp vs H Q E→vs.length=ps.length)
  (hbody:∀ (cdv:Value) (A:Around) (outer:List Env) (s:Shared) (H:Hp) (vs:List V) (Q:VK) (E:XK),bC k (A.deeper (envOfC qual (aw st) s.heap.objs.size f cdv))→sp vs H Q E→
   ∃ t,PSs (jZ CX0 P w K mg base N qual (aw st) f cdv A outer s H E).nox (aS st) t∧t { nx:=fun _ H'=>Q .non H',rt:=Q } (start N vs) H):dY P w K mg base CX0 (k+1) f fd ps sp:=by
 obtain ⟨oc,od,kV,doc,pm,an,cdv,ct,osl,rfl,lk,hcd⟩:=F.ex
 refine fn_of lk hcd S len fun A outer s H vs Q E hr hsp=>?_
 obtain ⟨t,h,q⟩:=hbody cdv A outer s H vs Q E hr hsp
 exact ⟨t,h.nox,q⟩
theorem Fun.binds {x qual:Str} {st:Stmt} {f:Addr} {fd:FuncData} {ps:List Str} (F:Fun K x qual st f fd)
  (h:∀ (kV doc pm:Value) (an:Option Addr) (cdv ct:Value) (us:List Value),us.length=ps.length→bindArgs (PySem.W.fnOf x qual (bp st) (aS st) (aw st) .none kV doc pm an cdv ct) ⟨us,[]⟩=pure (ps.zip us)):Binds K fd ps []:=by
 obtain ⟨oc,od,kV,doc,pm,an,cdv,ct,osl,rfl,lk,hcd⟩:=F.ex
 exact .all (h kV doc pm an cdv ct)
theorem jk {x qual:Str} {st:Stmt} {f:Addr} {oc:Value} {od an:Option Addr} {osl:Array (Option Value)} {kV doc pm cdv ct:Value} (l:K.lookup f=some ⟨oc,od,.func (PySem.W.fnOf x qual (bp st) (aS st) (aw st) .none kV doc pm an cdv ct),osl⟩)
 (c:PySem.W.codeIn K cdv qual=true) (k:PySem.W.keepIn K (.ref f)=true):Fun K x qual st f (PySem.W.fnOf x qual (bp st) (aS st) (aw st) .none kV doc pm an cdv ct):=⟨⟨oc,od,kV,doc,pm,an,cdv,ct,osl,rfl,l,c⟩,k⟩
end
section
variable {X:Cx}
theorem pv (i:Nat) {x:Str} {pos:Pos} (hN:X.N[i]?=some x:=by rfl) (hv:Vis X.env.scope x:=by first | exact Or.inl rfl | exact Or.inr (Or.inl rfl) | exact Or.inr (Or.inr rfl)) (hd:(x==("__debug__" : Str))=false:=by decide)
 (hcd:(x==("__classdict__" : Str))=false:=by decide):PE X (.Name x pos) (jY i):=pe_var hN hv hd hcd
end
def aN (H H':Hp):Prop:=∀ b o,H b=some o→H' b=some o
theorem aN.refl (H:Hp):aN H H:=fun _ _ h=>h
theorem aN.trans {H H1 H2:Hp} (a:aN H H1) (b:aN H1 H2):aN H H2:=fun c o h=>b c o (a c o h)
theorem aN.free {H H':Hp} (e:aN H H') {l:Addr} (h:H' l=Option.none):H l=Option.none:=by
 cases q:H l with
 | none=>rfl
 | some o=>
  rw [e l o q] at h
  cases h
end L2
end
section
set_option Elab.async false
set_option linter.all false
set_option maxRecDepth 100000
namespace L2
open PySem PySem.Spec PyProof.Rows
theorem mN {prog:Program} {w:World} {A:Around} {R:Result→Shared→Prop} {s:Shared} {elt target iter:Expr} {ifs:List Expr} {scope:Scope} {pos:Pos} {it acc:Value} {env:Env} (J:Nat→Shared→Prop)
  (turn:∀ n s,J n s→wpAny (model prog w) A (pyNext it) (fun r s₁=>match r with
   | none=>R (.ok .next) s₁
   | some v=>wpAny (model prog w) A (letOwnedTupleGo target it v) (fun _ s₂=>wpAny (model prog w) A (assign target env v) (fun _ s₃=>
    wpAny (model prog w) A (forIn ifs true fun c r=>if r=true then do let ok ←isTrue c env (eval c env);pure (ForInStep.yield ok) else pure (ForInStep.yield r)) (fun ok s₄=>
     if ok=true then wpAny (model prog w) A (eval elt env) (fun x s₅=>
      wpAny (model prog w) A (call (.builtin "list.append") [acc,x]) (fun _ s₆=>∃ m,m<n∧J m s₆) (fun _ _=>False) s₅) (fun _ _=>False) s₄
     else ∃ m,m<n∧J m s₄) (fun _ _=>False) s₃) (fun _ _=>False) s₂) (fun _ _=>False) s₁) (fun _ _=>False) s)
  (n:Nat) (h:J n s) :
  codeAny (model prog w) A (.compLoop (.ListComp elt [⟨target,iter,ifs,0⟩] scope pos) 0 it acc env) R s:=by
 refine codeAny_loop rfl J (fun n s hI=>?_) n h
 show wpAny _ A ((compTurn (.ListComp elt [⟨target,iter,ifs,0⟩] scope pos) 0 it acc env).onRaise (fun x=>do noteFrame x env;theTreesLotGoes x)) _ _ s
 refine wpAny_noted ?_
 rw [compTurn_list]
 refine wpAny_bind (wpAny_standAt (wpAny_bind (wpAny_mono (turn n s hI) (fun r s₁ h₁=>?_) fun _ _ z=>z.elim)))
 cases r with
 | none=>exact wpAny_pure h₁
 | some v=>
  refine wpAny_bind (wpAny_mono h₁ (fun _ s₂ h₂=>?_) fun _ _ z=>z.elim)
  refine wpAny_bind (wpAny_mono h₂ (fun _ s₃ h₃=>wpAny_bind (wpAny_mono h₃ (fun ok s₄ h₄=>?_) fun _ _ z=>z.elim)) fun _ _ z=>z.elim)
  cases ok with
  | false=>exact wpAny_pure ⟨rfl,h₄⟩
  | true=>
   exact wpAny_bind (wpAny_bind (wpAny_mono h₄ (fun x s₅ h₅=>wpAny_bind (wpAny_mono h₅ (fun _ s₆ h₆=>wpAny_pure (wpAny_pure ⟨rfl,h₆⟩)) fun _ _ z=>z.elim)) fun _ _ z=>z.elim))
def gk (cs:List (Str×Addr)):List (Str×NameKind)→List (Str×Addr)→List (Str×Addr)
  | [],acc=>acc
  | (n,k)::r,acc=>if k==.free then gk cs r ((n,(cs.lookup n).getD 0)::acc) else gk cs r acc
theorem hE {scope:Scope} {env:Env} (h:∀ p∈scope.names,p.2=.free→∃ c,env.cells.lookup p.1=some c):closureFor scope env=pure (gk env.cells scope.names []):=by
  simp only [closureFor]
  have go:∀ (ns:List (Str×NameKind)) (acc:List (Str×Addr)),(∀ p∈ns,p.2=.free→∃ c,env.cells.lookup p.1=some c)→
      (forIn ns acc fun (x:Str×NameKind) (r:List (Str×Addr))=>(match x with | (name,kind)=>if (kind==NameKind.free)=true then do let y ←cellOf env name;pure (ForInStep.yield ((name,y)::r)) else pure (ForInStep.yield r):Sem _))=(pure (gk env.cells ns acc):Sem _):=by
    intro ns
    induction ns with
    | nil=>intro acc _;rfl
    | cons p r ih=>
      intro acc hp
      obtain ⟨n,k⟩:=p
      rw [List.forIn_cons]
      by_cases hk:k=.free
      · subst hk
        obtain ⟨c,hc⟩:=hp (n,.free) List.mem_cons_self rfl
        have hc:env.cells.lookup n=some c:=hc
        have e1:cellOf env n=pure c:=by unfold cellOf;rw [hc]
        simp only [e1,beq_self_eq_true,if_true,pure_bind,gk,hc,Option.getD_some]
        exact ih _ fun p hp'=>hp p (List.mem_cons_of_mem _ hp')
      · have hb:(k==NameKind.free)=false:=by simpa using hk
        simp only [hb,Bool.false_eq_true,if_false,pure_bind,gk]
        exact ih _ fun p hp'=>hp p (List.mem_cons_of_mem _ hp')
  have:=go scope.names [] h
  first
    | (rw [this];rfl)
    | (simp only [this];rfl)
    | simpa using this
theorem mO {cs:List (Str×Addr)} {x:Str} {c:Addr}:∀ (ns:List (Str×NameKind)) (acc:List (Str×Addr)),(∀ p∈ns,p.2=.free→∃ c,cs.lookup p.1=some c)→(gk cs ns acc).lookup x=some c→acc.lookup x=some c∨cs.lookup x=some c
  | [],acc,_,h=>.inl h
  | (n,k)::r,acc,hp,h=>by
    unfold gk at h
    by_cases hk:k=.free
    · subst hk
      simp only [beq_self_eq_true,if_true] at h
      obtain ⟨d,hd⟩:=hp (n,.free) List.mem_cons_self rfl
      have hd:cs.lookup n=some d:=hd
      rcases mO r _ (fun p hp'=>hp p (List.mem_cons_of_mem _ hp')) h with q | q
      · rw [List.lookup_cons] at q
        cases hx:x==n with
        | true=>
          rw [hx] at q
          have e:x=n:=by simpa using hx
          subst e
          rw [hd] at q
          simp at q
          exact .inr (by rw [hd,q])
        | false=>rw [hx] at q;exact .inl q
      · exact .inr q
    · have hb:(k==NameKind.free)=false:=by simpa using hk
      simp only [hb,Bool.false_eq_true,if_false] at h
      exact mO r _ (fun p hp'=>hp p (List.mem_cons_of_mem _ hp')) h
theorem kJ {cs:List (Str×Addr)} {x:Str}:∀ (ns:List (Str×NameKind)) (acc:List (Str×Addr)),(∃ c,acc.lookup x=some c)→∃ c,(gk cs ns acc).lookup x=some c
  | [],acc,h=>h
  | (n,k)::r,acc,h=>by
    unfold gk
    split
    · refine kJ r _ ?_
      rw [List.lookup_cons]
      cases hx:x==n with
      | true=>exact ⟨_,rfl⟩
      | false=>exact h
    · exact kJ r _ h
theorem iD {cs:List (Str×Addr)} {x:Str}:∀ (ns:List (Str×NameKind)) (acc:List (Str×Addr)),(x,NameKind.free)∈ns→∃ c,(gk cs ns acc).lookup x=some c
  | [],_,h=>by simp at h
  | (n,k)::r,acc,h=>by
    unfold gk
    rcases List.mem_cons.mp h with e | h
    · cases e
      simp only [beq_self_eq_true,if_true]
      exact kJ r _ ⟨_,by rw [List.lookup_cons,beq_self_eq_true]⟩
    · split
      · exact iD r _ h
      · exact iD r _ h
theorem d0 {env:Env}:∀ {names:List (Str×NameKind)} {x:Str} {k:NameKind},
    (names.map fun (n,k)=>if (k==NameKind.free&&env.scope.kind==.function&&env.kindOf n==some .cell) then (n,NameKind.cell) else (n,k)).lookup x=some k→
    names.lookup x=some k∨names.lookup x=some .free
  | [],_,_,h=>by simp at h
  | (n,k')::r,x,k,h=>by
    have ih:=@d0 env r x k
    have h:List.lookup x ((if (k'==NameKind.free&&env.scope.kind==.function&&env.kindOf n==some .cell)=true then (n,NameKind.cell) else (n,k'))::(r.map fun (n,k)=>if (k==NameKind.free&&env.scope.kind==.function&&env.kindOf n==some .cell) then (n,NameKind.cell) else (n,k)))=some k:=h
    by_cases hc:(k'==NameKind.free&&env.scope.kind==.function&&env.kindOf n==some .cell)=true
    · rw [if_pos hc,List.lookup_cons] at h
      rw [List.lookup_cons]
      cases hx:x==n with
      | true=>
        have:k'=.free:=by simp at hc;exact hc.1.1
        rw [this];exact .inr rfl
      | false=>rw [hx] at h;exact ih h
    · rw [if_neg hc,List.lookup_cons] at h
      rw [List.lookup_cons]
      cases hx:x==n with
      | true=>rw [hx] at h;exact .inl h
      | false=>rw [hx] at h;exact ih h
theorem gl {env:Env} {x:Str}:∀ (ns:List (Str×NameKind)),ns.lookup x=some .free→
    (ns.map fun (n,k)=>if (k==NameKind.free&&env.scope.kind==.function&&env.kindOf n==some .cell) then (n,NameKind.cell) else (n,k)).lookup x≠some .local
  | [],h=>by simp at h
  | (n,k')::r,h=>by
    have ih:=@gl env x r
    show List.lookup x ((if (k'==NameKind.free&&env.scope.kind==.function&&env.kindOf n==some .cell)=true then (n,NameKind.cell) else (n,k'))::(r.map fun (n,k)=>if (k==NameKind.free&&env.scope.kind==.function&&env.kindOf n==some .cell) then (n,NameKind.cell) else (n,k)))≠some .local
    rw [List.lookup_cons] at h
    by_cases hc:(k'==NameKind.free&&env.scope.kind==.function&&env.kindOf n==some .cell)=true
    · rw [if_pos hc,List.lookup_cons]
      cases hx:x==n with
      | true=>intro z;cases z
      | false=>rw [hx] at h;exact ih h
    · rw [if_neg hc,List.lookup_cons]
      cases hx:x==n with
      | true=>rw [hx] at h;intro z;rw [show some k'=some NameKind.free from h] at z;cases z
      | false=>rw [hx] at h;exact ih h
def bv (X:Cx) (N:List Str) (scope:Scope) (cl:List (Str×Addr)) (C:Addr) (s:Shared) (H:Hp) (fp:List Addr):Cx:=
 { X with N:=N,s₀:=s,H₀:=H,env:=compEnvC scope cl C X.env,outer:=X.stack,stack:=X.stack,ex:=fp,fn:=fun _=>false,pn:=[],xe:=fun _ _=>False }
def PIfs (X:Cx) (ifs:List Expr) (t:TT):Prop:=
 ∀ (pins:List (Addr×Obj)) (s:Shared) (σ:St) (H:Hp) (Q:Bool→Hp→Prop),Inv X pins σ H s→t σ H Q→
  wpAny (model X.prog X.w) X.A (forIn ifs true fun c r=>if r=true then do let ok ←isTrue c X.env (eval c X.env);pure (ForInStep.yield ok) else pure (ForInStep.yield r)) (TP X pins σ Q) X.xe s
def tYes:TT:=fun _ H Q=>Q true H
theorem pifs_nil {X:Cx}:PIfs X [] tYes:=fun _ _ _ H _ I h=>wpAny_tests_nil ⟨H,I,h⟩
theorem pifs_one {X:Cx} {c:Expr} {t:TT} (hc:PT X c t):PIfs X [c] t:=fun pins s σ H Q I h=>wpAny_tests_one (hc pins s σ H Q I h)
structure dn (X:Cx) (N:List Str) (m:Nat) (ix:List Nat) (scope:Scope):Prop where
 kind:scope.kind=.function
 nocell:∀ y∈scope.names,y.2≠.cell
 names:∀ y∈scope.names,y.2=.local→scope.names.lookup y.1=some .local
 len:N.length=m+ix.length
 frees:∀ y∈scope.names,y.2=.free→X.env.kindOf y.1=some .cell∨X.env.kindOf y.1=some .free
 share:∀ (j:Nat) (i:Nat) (x:Str),ix[j]?=some i→N[m+j]?=some x→X.N[i]?=some x∧scope.names.lookup x=some .free
def fM (m:Nat) (ix:List Nat) (σ:St):St:=List.replicate m none++ix.map fun i=>(σ[i]?).join
def cLoop (J:It) (g:TG) (tt:TT) (te:TE) (D:Addr) (W:Nat→Nat→St→Hp→Prop) (Q:VK):Prop:=
 ∀ i n σ H,W i n σ H→(J.stop i H∧Q (.ref D) H)∨(J.go i H∧∃ N:St→Hp→Prop,(∀ σ' H',N σ' H'→∃ n',n'<n∧W (i+1) n' σ' H')∧
  ∀ x H',J.yld i H x H'→g x σ H' fun σ2 H2=>tt σ2 H2 fun b H3=>if b=true then te σ2 H3 fun v H4=>∃ ys,H4 D=some (.lst ys)∧ys.length<sizeLine∧N σ2 (upd H4 D (.lst (ys++[v]))) else N σ2 H3)
def tComp (wi:TI) (g:TG) (tt:TT) (te:TE) (m:Nat) (ix:List Nat):TE:=fun σ H Q=>wi σ H fun J H1=>∀ D,H1 D=none→
 ∃ W:Nat→Nat→St→Hp→Prop,(∃ n,W 0 n (fM m ix σ) (upd H1 D (.lst [])))∧cLoop J g tt te D W Q
section
variable {X:Cx} {tg elt iter:Expr} {ifs:List Expr} {scope:Scope} {pos:Pos} {N:List Str} {m:Nat} {ix:List Nat} {g:TG} {tt:TT} {te:TE}
theorem lV {pins:List (Addr×Obj)} {s2:Shared} {σ:St} {H2:Hp} {it:Addr} {fp:List Addr} {tn:Nat→Heap→Prop} {J:It} {Q:VK} {E:Value→Shared→Prop} {RR:Value→Addr→Result→Shared→Prop}
  (I2:Inv X pins σ H2 s2) (T:Turn X.prog X.w X.K tg J fp it tn) (st2:tn 0 s2.heap) (f2:∀ b∈fp,FpOk X pins H2 b) (hc:X.calm=true) (S:dn X N m ix scope)
  (hin:∀ cl C s H fp,PG (bv X N scope cl C s H fp) tg g∧PIfs (bv X N scope cl C s H fp) ifs tt∧PE (bv X N scope cl C s H fp) elt te)
  (hW:∀ D,H2 D=none→∃ W:Nat→Nat→St→Hp→Prop,(∃ n,W 0 n (fM m ix σ) (upd H2 D (.lst [])))∧cLoop J g tt te D W Q)
  (fin:∀ D C Hf s',Inv X pins σ Hf s'→Q (.ref D) Hf→(∃ mm,s'.heap.Ns C mm)→Hf C=none→C≠X.env.locals→X.s₀.heap.objs.size≤C→(∀ x c,X.env.cells.lookup x=some c→c≠C)→(∀ p∈X.pn++pins,p.1≠C)→RR (.ref D) C (.ok .next) s') :
  wpAny (model X.prog X.w) X.A (newList []) (fun acc s₃=>wpAny (model X.prog X.w) X.A (newFunctionEnv scope X.env.globals (gk X.env.cells scope.names []) [] X.env.qual none .none (some X.env)) (fun cenv s₄=>
   codeAny (model X.prog X.w) X.A (.compStart (.ListComp elt [⟨tg,iter,ifs,0⟩] scope pos) 0 (.ref it) acc { cenv with scope:=relabel scope X.env }) (RR acc cenv.locals) s₄) E s₃) E s2:=by
 have hcl:∀ p∈scope.names,p.2=.free→∃ c,X.env.cells.lookup p.1=some c:=fun p hp hk=>I2.ok.has _ (S.frees p hp hk)
 refine wpAny_newObj_type (wpAny_newFunctionEnv S.nocell (by intro y hy;simp at hy) (fun h₁ hns₁ hsb₁=>?_) S.kind)
 dsimp only at hns₁ hsb₁ ⊢
 obtain ⟨W,⟨n0,w0⟩,loop⟩:=hW s2.heap.objs.size I2.fresh
 have I3:Inv X pins σ (upd H2 s2.heap.objs.size (.lst [])) { s2 with heap:=s2.heap.push { cls:=.type "list",dict:=none,data:=.seq ([]:List Value).toArray } }:=I2.lnew (t':=s2.toks) (ys:=[]) (its:=[]) .nil (Nat.zero_le _)
 generalize hs3:({ s2 with heap:=s2.heap.push { cls:=.type "list",dict:=none,data:=.seq ([]:List Value).toArray } }:Shared)=s3 at I3
 generalize hH3:upd H2 s2.heap.objs.size (.lst [])=H3 at I3 w0
 have e3:s3.heap=s2.heap.push { cls:=.type "list",dict:=none,data:=.seq ([]:List Value).toArray }:=by rw [←hs3]
 rw [←e3] at hns₁ hsb₁ ⊢
 generalize hC:s3.heap.objs.size=C at hns₁ hsb₁ ⊢
 have old2:∀ b o,s2.heap.get? b=some o→s3.heap.get? b=some o:=fun b o e=>by rw [e3];exact Heap.get?_push_of_some _ e
 have old3:∀ b o,s3.heap.get? b=some o→h₁.get? b=some o:=fun b o e=>hsb₁.extBut b o (by rw [←hC];exact Nat.ne_of_lt (Heap.lt_size e)) (Heap.get?_push_of_some _ e)
 have fp3:∀ b∈fp,FpOk X pins H3 b:=fun b hb=>by
  obtain ⟨f0,f1,f2',f3,f4,f5⟩:=f2 b hb
  refine ⟨?_,f1,f2',f3,f4,f5⟩
  obtain ⟨o,ho,_⟩:=T.obj _ _ st2 b hb
  rw [←hH3,aH (Nat.ne_of_lt (Heap.lt_size ho))]
  exact f0
 have hCL:X.env.locals<C:=by rw [←hC];exact I3.lt
 have hCs:X.s₀.heap.objs.size≤C:=by rw [←hC];exact I3.sz
 have hCc:∀ x c,X.env.cells.lookup x=some c→c<C:=fun x c e=>by
  obtain ⟨v,q⟩:=I3.cell x c e
  rw [←hC];exact q.lt
 have hCp:∀ p∈X.pn++pins,p.1<C:=fun p hp=>by rw [←hC];exact Heap.lt_size (I3.pin p hp).1
 have hCf:∀ b∈fp,b<C:=fun b hb=>by
  obtain ⟨o,ho,_⟩:=T.obj _ _ st2 b hb
  rw [←hC];exact Heap.lt_size (old2 _ _ ho)
 let Y:Cx:=bv X N scope (gk X.env.cells scope.names []) C s3 H3 fp
 have cells_of:∀ x c,(gk X.env.cells scope.names []).lookup x=some c→X.env.cells.lookup x=some c:=fun x c e=>by
  rcases mO _ _ hcl e with q | q
  ·
   simp at q
  ·
   exact q
 have stkne:∀ b∈fp,b∉frs X.stack:=fun b hb hs=>by
  obtain ⟨_,f1,f2',_⟩:=fp3 b hb
  rcases List.mem_cons.mp (I3.stkSub b hs) with e | e
  ·
   exact f1 e
  ·
   exact f2' e
 have okY:Y.Ok:=by
  refine ⟨I3.ok.mod,S.kind,I3.ok.glob,I3.ok.blt,by show s3.heap.objs.size≤C;rw [hC];exact Nat.le_refl _,fun x y c h1 h2=>I3.ok.inj x y c (cells_of x c h1) (cells_of y c h2),fun x hx=>?_,fun x c h _=>absurd (show false=true from h) (by simp),I3.ok.hd,I3.ok.frames,.inl rfl,fun b hb=>⟨?_,fun x c e=>?_⟩,fun b o e=>I3.bs b o e,Nat.le_trans I3.ok.bsz I3.sz,fun b o e hb=>?_,stkne,I3.stack,I3.stkFree⟩
  ·
   have hx':(relabel scope X.env).names.lookup x=some .cell∨(relabel scope X.env).names.lookup x=some .free:=hx
   have hf:scope.names.lookup x=some .free:=by
    rcases hx' with q | q
    ·
     rcases d0 q with z | z
     ·
      exact absurd rfl (S.nocell _ (PySem.mem_of_lookup z))
     ·
      exact z
    ·
     rcases d0 q with z | z
     ·
      exact z
     ·
      exact z
   exact iD _ _ (PySem.mem_of_lookup hf)
  ·
   exact Nat.ne_of_lt (hCf b hb)
  ·
   exact (fp3 b hb).2.2.2.2.1 x c (cells_of x c e)
  ·
   rcases (fp3 b hb).2.2.2.1 with z | z
   ·
    exact I3.ok.noex b o e z
   ·
    exact absurd (Nat.lt_of_lt_of_le (Heap.lt_size (I3.ok.bs b o e).1) z) (Nat.lt_irrefl _)
 have IY:Inv Y (X.pn++pins) (fM m ix σ) H3 { s3 with heap:=h₁,toks:=s3.toks+([]:List (Str×Value)).length }:=by
  refine ⟨okY,rfl,I3.bare,Un.kept old3,⟨_,hns₁,fun j x v hx hv hvis=>?_⟩,fun x c e=>?_,I3.hok.fresh (by rw [hC];exact Nat.le_refl _),fun x c e=>I3.freeC x c (cells_of x c e),fun p hp=>?_,I3.hok.kept old3,?_⟩
  ·
   have hx:N[j]?=some x:=hx
   unfold fM at hv
   by_cases hj:j<m
   ·
    rw [List.getElem?_append_left (by simpa using hj),List.getElem?_replicate] at hv
    split at hv <;> cases hv
   ·
    obtain ⟨k,rfl⟩ : ∃ k,j=m+k:=⟨j-m,by omega⟩
    rw [List.getElem?_append_right (by simp),List.length_replicate,Nat.add_sub_cancel_left,List.getElem?_map] at hv
    cases hi:ix[k]? with
    | none=>rw [hi] at hv;cases hv
    | some i=>
     rw [hi] at hv
     have hv':(σ[i]?).join=some v:=by simpa using hv
     have hv'':σ[i]?=some (some v):=by
      cases q:σ[i]? with
      | none=>rw [q] at hv';cases hv'
      | some z=>rw [q] at hv';simp at hv';rw [hv']
     obtain ⟨hXN,hfree⟩:=S.share k i x hi hx
     obtain ⟨mm,hn,hl⟩:=I3.loc
     have hkx:X.env.kindOf x=some .cell∨X.env.kindOf x=some .free:=S.frees (x,.free) (PySem.mem_of_lookup hfree) rfl
     have hvisX:Vis X.env.scope x:=by
      rcases hkx with q | q
      ·
       exact .inr (.inl q)
      ·
       exact .inr (.inr q)
     obtain ⟨u,r,l⟩:=hl i x v hXN hv'' hvisX
     refine ⟨u,r,.inr ⟨?_,?_⟩⟩
     ·
      have hvis:Vis (relabel scope X.env) x:=hvis
      rcases hvis with q | q | q
      ·
       rcases d0 q with z | z
       ·
        rw [hfree] at z;cases z
       ·
        exact absurd q (gl scope.names hfree)
      ·
       exact .inl q
      ·
       exact .inr q
     ·
      obtain ⟨c,hcc⟩:=iD (cs:=X.env.cells) scope.names [] (PySem.mem_of_lookup hfree)
      refine ⟨c,hcc,?_⟩
      have hXc:=cells_of x c hcc
      rcases l with ⟨k1,_⟩ | ⟨_,c',e',z⟩
      ·
       exfalso
       have k1:X.env.kindOf x=some .local:=k1
       rcases hkx with q | q <;> rw [k1] at q <;> cases q
      ·
       rw [hXc] at e';cases e'
       obtain ⟨o,ho,hd⟩:=z
       exact ⟨o,old3 _ _ ho,hd⟩
  ·
   obtain ⟨v,o,ho,hd⟩:=I3.cell x c (cells_of x c e)
   exact ⟨v,o,old3 _ _ ho,hd⟩
  ·
   have hp':p∈X.pn++pins:=by
    have:p∈([]:List (Addr×Obj))++(X.pn++pins):=hp
    simpa using this
   obtain ⟨e,nn,ne,nf,d⟩:=I3.pin p hp'
   refine ⟨old3 _ _ e,nn,Nat.ne_of_lt (hCp p hp'),fun hs=>?_,d⟩
   rcases List.mem_cons.mp (I3.stkSub p.1 hs) with z | z
   ·
    exact ne z
   ·
    exact nf z
  ·
   unfold fM
   show _=N.length
   rw [S.len,List.length_append,List.length_replicate,List.length_map]
 have stat:∀ {H':Hp},(∀ b∈fp,H' b=none)→∀ b∈fp,FpOk Y (X.pn++pins) H' b:=fun hn b hb=>by
  obtain ⟨f0,f1,f2',f3,f4,f5⟩:=fp3 b hb
  refine ⟨hn b hb,Nat.ne_of_lt (hCf b hb),stkne b hb,.inl hb,fun x c e=>f4 x c (cells_of x c e),fun p hp=>?_⟩
  have hp':p∈X.pn++pins:=by
   have:p∈([]:List (Addr×Obj))++(X.pn++pins):=hp
   simpa using this
  exact f5 p hp'
 obtain ⟨hg,ht,he⟩:=hin (gk X.env.cells scope.names []) C s3 H3 fp
 have st4:tn 0 h₁:=T.keep _ _ _ st2 fun b _ o e=>old3 _ _ (old2 _ _ e)
 have run:∀ s4:Shared,s4={ s3 with heap:=h₁,toks:=s3.toks+([]:List (Str×Value)).length }→
   codeAny (model X.prog X.w) X.A (.compLoop (.ListComp elt [⟨tg,iter,ifs,0⟩] scope pos) 0 (.ref it) (.ref s2.heap.objs.size) (compEnvC scope (gk X.env.cells scope.names []) C X.env)) (RR (.ref s2.heap.objs.size) C) s4:=by
  rintro s4 rfl
  refine mN (fun n s'=>∃ i σ' H',Inv Y (X.pn++pins) σ' H' s'∧tn i s'.heap∧(∀ b∈fp,H' b=none)∧W i n σ' H') ?_ n0 ⟨0,_,_,IY,st4,fun b hb=>(fp3 b hb).1,w0⟩
  rintro n s5 ⟨i,σ5,H5,I5,st5,fr5,w5⟩
  rcases loop i n σ5 H5 w5 with ⟨stop,qn⟩ | ⟨go,NN,hN,step⟩
  ·
   refine thn (T.done Y rfl rfl rfl hc i (X.pn++pins) s5 σ5 H5 (fun _ _=>False) I5 (stat fr5) st5 stop) fun r s6 ⟨hr,I6⟩=>?_
   subst hr
   have J6:Inv X pins σ H5 s6:=by
    refine I3.call' (ch:=fp) ?_ I6.base I6.hok I6.bare fun b hb=>?_
    ·
     exact I6.os
    ·
     obtain ⟨f0,f1,f2',f3,f4,f5⟩:=fp3 b hb
     exact ⟨f3,f1,f4,f5⟩
   obtain ⟨mm,hn6,_⟩:=I6.loc
   exact fin _ C H5 s6 J6 qn ⟨mm,hn6⟩ I6.free (Nat.ne_of_gt hCL) hCs (fun x c e=>Nat.ne_of_lt (hCc x c e)) fun p hp=>Nat.ne_of_lt (hCp p hp)
  ·
   refine thn (T.item Y rfl rfl rfl hc i (X.pn++pins) s5 σ5 H5 (fun _ _=>False) I5 (stat fr5) st5 go) fun r s6 ⟨u,hr,h6⟩=>?_
   subst hr
   refine thn h6 fun _ s7 ⟨x,H7,I7,r7,y7,st7,fr7⟩=>?_
   have I7':=I7.pinned (stat fr7) (T.obj _ _ st7)
   refine thn (hg _ s7 σ5 H7 x u _ I7' r7 (step x H7 y7)) fun _ s8 ⟨σ8,H8,I8,q8⟩=>?_
   refine thn (ht _ s8 σ8 H8 _ I8 q8) fun ok s9 ⟨H9,I9,q9⟩=>?_
   have again:∀ {s':Shared} {σ':St} {H':Hp},Inv Y ((X.pn++pins)++kI fp s7.heap) σ' H' s'→NN σ' H'→∃ m',m'<n∧∃ i σ' H',Inv Y (X.pn++pins) σ' H' s'∧tn i s'.heap∧(∀ b∈fp,H' b=none)∧W i m' σ' H':=fun {s' σ' H'} I' n'=>by
    obtain ⟨m',hm,w'⟩:=hN σ' H' n'
    refine ⟨m',hm,i+1,σ',H',I'.unpinned,T.keep _ _ _ st7 fun b hb o e=>(I'.pin (b,o) (List.mem_append_right _ (List.mem_append_right _ (fJ hb e)))).1,fun b hb=>?_,w'⟩
    obtain ⟨o,e,d⟩:=T.obj _ _ st7 b hb
    exact (I'.pin (b,o) (List.mem_append_right _ (List.mem_append_right _ (fJ hb e)))).2.1
   cases ok with
   | false=>exact again I9 q9
   | true=>
    refine thn (he _ s9 σ8 H9 _ I9 q9) fun y s10 ⟨vy,H10,I10,r10,ys,hD,hz,q10⟩=>?_
    exact thn (lS (X:=Y) _ s10 σ8 H10 (.ref s2.heap.objs.size) [vy] _ [y] (fun _ H'=>NN σ8 H') I10 rfl (.cons r10 .nil) ⟨_,ys,vy,rfl,rfl,hD,hz,q10⟩) fun _ s11 ⟨_,H11,I11,_,q11⟩=>again I11 q11
 exact codeAny_compStart_list (run _ (by rw [←hs3])) (T.self _ 0 _ _ _ st4 (run _ (by rw [←hs3])))
theorem pe_comp {wi:TI} (hc:X.calm=true) (S:dn X N m ix scope) (hi:PI X tg iter wi)
  (hin:∀ cl C s H fp,PG (bv X N scope cl C s H fp) tg g∧PIfs (bv X N scope cl C s H fp) ifs tt∧PE (bv X N scope cl C s H fp) elt te)
  (hs:∀ x,foldedSetIterable iter X.env x=pure x:=by intro _;rfl):PE X (.ListComp elt [⟨tg,iter,ifs,0⟩] scope pos) (tComp wi g tt te m ix):=by
 intro pins s σ H Q I h
 rw [eval_ListComp]
 refine wpAny_comprehension_free (use:=none) rfl hs (hE fun p hp hk=>I.ok.has _ (S.frees p hp hk)) S.kind S.names ?_
 show wpAny _ _ (eval iter X.env) _ _ _
 refine thn (hi pins s σ H _ I h) fun v s1 h1=>thn h1 fun itv s2 h2=>?_
 obtain ⟨it,fp,tn,J,H2,rfl,I2,T,st2,f2,hW⟩:=h2
 refine lV (RR:=fun acc C=>compPost (model X.prog X.w) X.A X.xe none (EP X pins σ Q) acc C) I2 T st2 f2 hc S hin hW ?_
 intro D C Hf s' J' q hn hCf hCL hCs hCc hCp
 obtain ⟨mm,hn⟩:=hn
 refine ⟨mm,hn,fun h' hs'=>⟨.ref D,Hf,?_,rfl,q⟩⟩
 exact J'.turned (t':=s'.toks) (fun b o hb e=>hs'.extBut b o hb e) hCf hCL (.inr hCs) hCc hCp
theorem ps_comp {wi:TI} {y:Str} {py spos:Pos} {iy:Nat} (hc:X.calm=true) (S:dn X N m ix scope) (hi:PI X tg iter wi)
  (hin:∀ cl C s H fp,PG (bv X N scope cl C s H fp) tg g∧PIfs (bv X N scope cl C s H fp) ifs tt∧PE (bv X N scope cl C s H fp) elt te)
  (hN:X.N.Nodup) (hiy:X.N[iy]?=some y) (hy:Loc X.env.scope y)
  (hsw:swapsWith (.ListComp elt [⟨tg,iter,ifs,0⟩] scope pos) (some (.Name y py)) spos.line X.env=pure true:=by rfl)
  (hf:X.fn y=true∨X.env.scope.names.lookup y=some .local:=by first | exact .inl rfl | exact .inr rfl | assumption)
  (hs:∀ x,foldedSetIterable iter X.env x=pure x:=by intro _;rfl):PS X (.Assign [.Name y py] (.ListComp elt [⟨tg,iter,ifs,0⟩] scope pos) spos) (tAsg (tComp wi g tt te m ix) (lN iy)):=by
 intro pins s σ H D0 I h
 rw [exec_Assign_Name_used _ _ _ _ hsw]
 refine wpAny_bind (wpAny_standAt (wpAny_bind ?_))
 show wpAny _ X.A (do let _ ←comprehension (.ListComp elt [⟨tg,iter,ifs,0⟩] scope pos) scope X.env _ (newList []) false (eval iter X.env) (some (assign (.Name y py) X.env))) _ _ s
 refine wpAny_bind (wpAny_mono (wpAny_comprehension_free (use:=some (assign (.Name y py) X.env)) (Q:=fun _ s'=>SP X pins D0 .next s') rfl hs (hE fun p hp hk=>I.ok.has _ (S.frees p hp hk)) S.kind S.names ?_) (fun _ s' hq=>wpAny_pure (wpAny_pure hq)) fun _ _ e=>e)
 refine thn (hi pins s σ H _ I h) fun v s1 h1=>thn h1 fun itv s2 h2=>?_
 obtain ⟨it,fp,tn,J,H2,rfl,I2,T,st2,f2,hW⟩:=h2
 refine lV (RR:=fun acc C=>compPost (model X.prog X.w) X.A X.xe (some (assign (.Name y py) X.env)) (fun _ s'=>SP X pins D0 .next s') acc C) I2 T st2 f2 hc S hin hW ?_
 intro D C Hf s' J' q hn hCf hCL hCs hCc hCp
 obtain ⟨mm,hn⟩:=hn
 show wpAny _ X.A (assign (.Name y py) X.env (.ref D)) _ _ _
 refine wpAny_assign_Name (lM (v:=.ref D) J' hN hiy hy rfl (fun s'' I'' hsb=>?_) hf)
 obtain ⟨a,hsb,ha⟩:=hsb
 have hCa:C≠a:=by
  rcases ha with e | e
  ·
   rw [e];exact hCL
  ·
   exact fun z=>hCc y a e z.symm
 refine ⟨mm,hn.sameBut hsb hCa,fun h' hs'=>⟨_,Hf,?_,q⟩⟩
 exact I''.turned (t':=s''.toks) (fun b o hb e=>hs'.extBut b o hb e) hCf hCL (.inr hCs) hCc hCp
end
end L2
end
section
set_option Elab.async false
set_option linter.all false
set_option maxRecDepth 100000
namespace L2
open PySem PySem.Spec
theorem aN.updS {H H':Hp} (s:aN H H') {p:Addr} {o:HO}:aN (upd H p o) (upd H' p o):=fun b u e=>by
 by_cases hb:b=p
 ·
  subst hb;rw [aF] at e ⊢;exact e
 ·
  rw [aH hb] at e ⊢;exact s _ _ e
theorem aN.new {H:Hp} {p:Addr} {o:HO} (n:H p=none):aN H (upd H p o):=fun b u e=>by rw [aH (aR e n)];exact e
theorem PE.weak {X:Cx} {e:Expr} {t t':TE} (h:PE X e t) (w:∀ σ H Q,t' σ H Q→t σ H Q):PE X e t':=fun pins s σ H Q I q=>h pins s σ H Q I (w σ H Q q)
theorem PT.weak {X:Cx} {e:Expr} {t t':TT} (h:PT X e t) (w:∀ σ H Q,t' σ H Q→t σ H Q):PT X e t':=fun pins s σ H Q I q=>h pins s σ H Q I (w σ H Q q)
theorem PW.weak {X:Cx} {e:Expr} {t t':TT} (h:PW X e t) (w:∀ σ H Q,t' σ H Q→t σ H Q):PW X e t':=fun wh pins s σ H Q I q=>h wh pins s σ H Q I (w σ H Q q)
theorem PA.weak {X:Cx} {es:List Expr} {t t':TA} (h:PA X es t) (w:∀ σ H Q,t' σ H Q→t σ H Q):PA X es t':=fun pos pins s σ H Q I q=>h pos pins s σ H Q I (w σ H Q q)
theorem PS.weak {X:Cx} {e:Stmt} {t t':TS} (h:PS X e t) (w:∀ D σ H,t' D σ H→t D σ H):PS X e t':=fun pins s σ H D I q=>h pins s σ H D I (w D σ H q)
theorem PSs.weak {X:Cx} {e:List Stmt} {t t':TS} (h:PSs X e t) (w:∀ D σ H,t' D σ H→t D σ H):PSs X e t':=fun pins s σ H D I q=>h pins s σ H D I (w D σ H q)
end L2
namespace Ew
open PySem PySem.Spec L2
inductive D where
 | non
 | bl (b:Bool)
 | int (i:Int)
 | str (x:Str)
 | lst (xs:List D)
 | tup (xs:List D)
 | obj (C:Addr) (fs:List (Str×D))
mutual
def Rep (H:Hp):D→V→Prop
 | .non,v=>v=.non
 | .bl b,v=>v=.bl b
 | .int i,v=>v=.int i
 | .str x,v=>v=.str x
 | .lst ds,v=>∃ a vs,v=.ref a∧H a=some (.lst vs)∧aE H ds vs
 | .tup ds,v=>∃ a vs,v=.ref a∧H a=some (.tup vs)∧aE H ds vs
 | .obj C fs,v=>∃ a dx fvs,v=.ref a∧H a=some (.ins C dx fvs)∧dO H fs fvs
def aE (H:Hp):List D→List V→Prop
 | [],vs=>vs=[]
 | d::ds,vs=>∃ v r,vs=v::r∧Rep H d v∧aE H ds r
def dO (H:Hp):List (Str×D)→List (Str×V)→Prop
 | [],vs=>vs=[]
 | fd::fs,vs=>∃ v r,vs=(fd.1,v)::r∧Rep H fd.2 v∧dO H fs r
end
section
variable {H H':Hp}
mutual
theorem Rep.mono (k:aN H H'):∀ (d:D) {v:V},Rep H d v→Rep H' d v
 | .non,_,h=>by unfold Rep at h ⊢;exact h
 | .bl b,_,h=>by unfold Rep at h ⊢;exact h
 | .int i,_,h=>by unfold Rep at h ⊢;exact h
 | .str x,_,h=>by unfold Rep at h ⊢;exact h
 | .lst ds,_,h=>by
  unfold Rep at h ⊢
  obtain ⟨a,vs,e,h1,h2⟩:=h
  exact ⟨a,vs,e,k _ _ h1,aE.mono k ds h2⟩
 | .tup ds,_,h=>by
  unfold Rep at h ⊢
  obtain ⟨a,vs,e,h1,h2⟩:=h
  exact ⟨a,vs,e,k _ _ h1,aE.mono k ds h2⟩
 | .obj C fs,_,h=>by
  unfold Rep at h ⊢
  obtain ⟨a,dx,vs,e,h1,h2⟩:=h
  exact ⟨a,dx,vs,e,k _ _ h1,dO.mono k fs h2⟩
theorem aE.mono (k:aN H H'):∀ (ds:List D) {vs:List V},aE H ds vs→aE H' ds vs
 | [],_,h=>by unfold aE at h ⊢;exact h
 | d::ds,_,h=>by
  unfold aE at h ⊢
  obtain ⟨v,r,e,h1,h2⟩:=h
  exact ⟨v,r,e,Rep.mono k d h1,aE.mono k ds h2⟩
theorem dO.mono (k:aN H H'):∀ (fs:List (Str×D)) {vs:List (Str×V)},dO H fs vs→dO H' fs vs
  | [],_,h=>by unfold dO at h ⊢;exact h
  | (f,d)::fs,_,h=>by
    unfold dO at h ⊢
    obtain ⟨v,r,e,h1,h2⟩:=h
    exact ⟨v,r,e,Rep.mono k d h1,dO.mono k fs h2⟩
end
end
theorem aE.nil {H:Hp}:aE H [] []:=by unfold aE;rfl
theorem aE.cons {H:Hp} {d:D} {ds:List D} {v:V} {vs:List V} (h:Rep H d v) (t:aE H ds vs):aE H (d::ds) (v::vs):=by unfold aE;exact ⟨v,vs,rfl,h,t⟩
theorem aE.length {H:Hp}:∀ {ds:List D} {vs:List V},aE H ds vs→vs.length=ds.length
 | [],_,h=>by unfold aE at h;rw [h];rfl
 | d::ds,_,h=>by
  unfold aE at h
  obtain ⟨v,r,rfl,_,h2⟩:=h
  simp [aE.length h2]
theorem aE.get {H:Hp}:∀ {ds:List D} {vs:List V} {i:Nat} {d:D},aE H ds vs→ds[i]?=some d→∃ v,vs[i]?=some v∧Rep H d v
 | [],_,i,_,_,e=>by simp at e
 | d::ds,_,0,d',h,e=>by
  unfold aE at h
  obtain ⟨v,r,rfl,h1,h2⟩:=h
  simp at e;subst e
  exact ⟨v,rfl,h1⟩
 | d::ds,_,i+1,d',h,e=>by
  unfold aE at h
  obtain ⟨v,r,rfl,h1,h2⟩:=h
  obtain ⟨u,e1,e2⟩:=aE.get (i:=i) h2 (by simpa using e)
  exact ⟨u,by simpa using e1,e2⟩
theorem aE.append {H:Hp}:∀ {ds es:List D} {vs us:List V},aE H ds vs→aE H es us→aE H (ds++es) (vs++us)
 | [],_,_,_,h,t=>by unfold aE at h;rw [h];exact t
 | d::ds,_,_,_,h,t=>by
  unfold aE at h
  obtain ⟨v,r,rfl,h1,h2⟩:=h
  exact .cons h1 (aE.append h2 t)
theorem aE.take {H:Hp}:∀ {ds:List D} {vs:List V} (n:Nat),aE H ds vs→aE H (ds.take n) (vs.take n)
 | [],_,n,h=>by unfold aE at h;rw [h];simp;exact .nil
 | d::ds,_,0,h=>by simp;exact .nil
 | d::ds,_,n+1,h=>by
  unfold aE at h
  obtain ⟨v,r,rfl,h1,h2⟩:=h
  exact .cons h1 (aE.take n h2)
theorem aE.drop {H:Hp}:∀ {ds:List D} {vs:List V} (n:Nat),aE H ds vs→aE H (ds.drop n) (vs.drop n)
 | [],_,n,h=>by unfold aE at h;rw [h];simp;exact .nil
 | d::ds,_,0,h=>by simpa using h
 | d::ds,_,n+1,h=>by
  unfold aE at h
  obtain ⟨v,r,rfl,h1,h2⟩:=h
  exact aE.drop n h2
theorem aE.reverse {H:Hp}:∀ {ds:List D} {vs:List V},aE H ds vs→aE H ds.reverse vs.reverse
 | [],_,h=>by unfold aE at h;rw [h];simp;exact .nil
 | d::ds,_,h=>by
  unfold aE at h
  obtain ⟨v,r,rfl,h1,h2⟩:=h
  rw [List.reverse_cons,List.reverse_cons]
  exact aE.append (aE.reverse h2) (.cons h1 .nil)
theorem dO.lookup {H:Hp} {f:Str}:∀ {fs:List (Str×D)} {vs:List (Str×V)} {d:D},dO H fs vs→fs.lookup f=some d→∃ v,vs.lookup f=some v∧Rep H d v
  | [],_,_,_,e=>by simp at e
  | (g,d')::fs,_,d,h,e=>by
    unfold dO at h
    obtain ⟨v,r,rfl,h1,h2⟩:=h
    rw [List.lookup_cons] at e ⊢
    cases hx:f==g with
    | true=>rw [hx] at e;simp at e;subst e;exact ⟨v,by simp,h1⟩
    | false=>rw [hx] at e;exact dO.lookup h2 e
theorem dO.none {H:Hp} {f:Str}:∀ {fs:List (Str×D)} {vs:List (Str×V)},dO H fs vs→fs.lookup f=none→vs.lookup f=none
  | [],_,h,e=>by unfold dO at h;rw [h];rfl
  | (g,d')::fs,_,h,e=>by
    unfold dO at h
    obtain ⟨v,r,rfl,h1,h2⟩:=h
    rw [List.lookup_cons] at e ⊢
    cases hx:f==g with
    | true=>rw [hx] at e;simp at e
    | false=>rw [hx] at e;exact dO.none h2 e
mutual
def Own (H:Hp):D→V→List Addr→Prop
 | .non,v,L=>v=.non∧L=[]
 | .bl b,v,L=>v=.bl b∧L=[]
 | .int i,v,L=>v=.int i∧L=[]
 | .str x,v,L=>v=.str x∧L=[]
 | .lst ds,v,L=>∃ a vs M,v=.ref a∧H a=some (.lst vs)∧aJ H ds vs M∧a∉M∧L=a::M
 | .tup ds,v,L=>∃ a vs M,v=.ref a∧H a=some (.tup vs)∧aJ H ds vs M∧a∉M∧L=a::M
 | .obj C fs,v,L=>∃ a dx fvs M,v=.ref a∧H a=some (.ins C dx fvs)∧H dx=some (.own a)∧aT H fs fvs M∧a∉M∧dx∉M∧L=a::dx::M
def aJ (H:Hp):List D→List V→List Addr→Prop
 | [],vs,L=>vs=[]∧L=[]
 | d::ds,vs,L=>∃ v r M N,vs=v::r∧Own H d v M∧aJ H ds r N∧(∀ a∈M,a∉N)∧L=M++N
def aT (H:Hp):List (Str×D)→List (Str×V)→List Addr→Prop
 | [],vs,L=>vs=[]∧L=[]
 | fd::fs,vs,L=>∃ v r M N,vs=(fd.1,v)::r∧Own H fd.2 v M∧aT H fs r N∧(∀ a∈M,a∉N)∧L=M++N
end
section
variable {H H':Hp}
mutual
theorem Own.agree:∀ (d:D) {v:V} {L:List Addr},Own H d v L→(∀ a∈L,H' a=H a)→Own H' d v L
 | .non,_,_,h,_=>by unfold Own at h ⊢;exact h
 | .bl b,_,_,h,_=>by unfold Own at h ⊢;exact h
 | .int i,_,_,h,_=>by unfold Own at h ⊢;exact h
 | .str x,_,_,h,_=>by unfold Own at h ⊢;exact h
 | .lst ds,_,_,h,k=>by
  unfold Own at h ⊢
  obtain ⟨a,vs,M,e,h1,h2,n,rfl⟩:=h
  exact ⟨a,vs,M,e,by rw [k a List.mem_cons_self];exact h1,aJ.agree ds h2 fun b hb=>k b (List.mem_cons_of_mem _ hb),n,rfl⟩
 | .tup ds,_,_,h,k=>by
  unfold Own at h ⊢
  obtain ⟨a,vs,M,e,h1,h2,n,rfl⟩:=h
  exact ⟨a,vs,M,e,by rw [k a List.mem_cons_self];exact h1,aJ.agree ds h2 fun b hb=>k b (List.mem_cons_of_mem _ hb),n,rfl⟩
 | .obj C fs,_,_,h,k=>by
  unfold Own at h ⊢
  obtain ⟨a,dx,vs,M,e,h1,h3,h2,n,n2,rfl⟩:=h
  exact ⟨a,dx,vs,M,e,by rw [k a List.mem_cons_self];exact h1,by rw [k dx (List.mem_cons_of_mem _ List.mem_cons_self)];exact h3,aT.agree fs h2 fun b hb=>k b (List.mem_cons_of_mem _ (List.mem_cons_of_mem _ hb)),n,n2,rfl⟩
theorem aJ.agree:∀ (ds:List D) {vs:List V} {L:List Addr},aJ H ds vs L→(∀ a∈L,H' a=H a)→aJ H' ds vs L
 | [],_,_,h,_=>by unfold aJ at h ⊢;exact h
 | d::ds,_,_,h,k=>by
  unfold aJ at h ⊢
  obtain ⟨v,r,M,N,e,h1,h2,n,rfl⟩:=h
  exact ⟨v,r,M,N,e,Own.agree d h1 fun b hb=>k b (List.mem_append_left _ hb),aJ.agree ds h2 fun b hb=>k b (List.mem_append_right _ hb),n,rfl⟩
theorem aT.agree:∀ (fs:List (Str×D)) {vs:List (Str×V)} {L:List Addr},aT H fs vs L→(∀ a∈L,H' a=H a)→aT H' fs vs L
  | [],_,_,h,_=>by unfold aT at h ⊢;exact h
  | (f,d)::fs,_,_,h,k=>by
    unfold aT at h ⊢
    obtain ⟨v,r,M,N,e,h1,h2,n,rfl⟩:=h
    exact ⟨v,r,M,N,e,Own.agree d h1 fun b hb=>k b (List.mem_append_left _ hb),aT.agree fs h2 fun b hb=>k b (List.mem_append_right _ hb),n,rfl⟩
end
mutual
theorem Own.rep:∀ (d:D) {v:V} {L:List Addr},Own H d v L→(∀ a∈L,H' a=H a)→Rep H' d v
 | .non,_,_,h,_=>by unfold Own at h;unfold Rep;exact h.1
 | .bl b,_,_,h,_=>by unfold Own at h;unfold Rep;exact h.1
 | .int i,_,_,h,_=>by unfold Own at h;unfold Rep;exact h.1
 | .str x,_,_,h,_=>by unfold Own at h;unfold Rep;exact h.1
 | .lst ds,_,_,h,k=>by
  unfold Own at h;unfold Rep
  obtain ⟨a,vs,M,e,h1,h2,n,rfl⟩:=h
  exact ⟨a,vs,e,by rw [k a List.mem_cons_self];exact h1,aJ.rep ds h2 fun b hb=>k b (List.mem_cons_of_mem _ hb)⟩
 | .tup ds,_,_,h,k=>by
  unfold Own at h;unfold Rep
  obtain ⟨a,vs,M,e,h1,h2,n,rfl⟩:=h
  exact ⟨a,vs,e,by rw [k a List.mem_cons_self];exact h1,aJ.rep ds h2 fun b hb=>k b (List.mem_cons_of_mem _ hb)⟩
 | .obj C fs,_,_,h,k=>by
  unfold Own at h;unfold Rep
  obtain ⟨a,dx,vs,M,e,h1,h3,h2,n,n2,rfl⟩:=h
  exact ⟨a,dx,vs,e,by rw [k a List.mem_cons_self];exact h1,aT.rep fs h2 fun b hb=>k b (List.mem_cons_of_mem _ (List.mem_cons_of_mem _ hb))⟩
theorem aJ.rep:∀ (ds:List D) {vs:List V} {L:List Addr},aJ H ds vs L→(∀ a∈L,H' a=H a)→aE H' ds vs
 | [],_,_,h,_=>by unfold aJ at h;unfold aE;exact h.1
 | d::ds,_,_,h,k=>by
  unfold aJ at h;unfold aE
  obtain ⟨v,r,M,N,e,h1,h2,n,rfl⟩:=h
  exact ⟨v,r,e,Own.rep d h1 fun b hb=>k b (List.mem_append_left _ hb),aJ.rep ds h2 fun b hb=>k b (List.mem_append_right _ hb)⟩
theorem aT.rep:∀ (fs:List (Str×D)) {vs:List (Str×V)} {L:List Addr},aT H fs vs L→(∀ a∈L,H' a=H a)→dO H' fs vs
  | [],_,_,h,_=>by unfold aT at h;unfold dO;exact h.1
  | (f,d)::fs,_,_,h,k=>by
    unfold aT at h;unfold dO
    obtain ⟨v,r,M,N,e,h1,h2,n,rfl⟩:=h
    exact ⟨v,r,e,Own.rep d h1 fun b hb=>k b (List.mem_append_left _ hb),aT.rep fs h2 fun b hb=>k b (List.mem_append_right _ hb)⟩
end
mutual
theorem Own.cell:∀ (d:D) {v:V} {L:List Addr},Own H d v L→∀ a∈L,∃ o,H a=some o
 | .non,_,_,h=>by unfold Own at h;rw [h.2];intro a ha;cases ha
 | .bl b,_,_,h=>by unfold Own at h;rw [h.2];intro a ha;cases ha
 | .int i,_,_,h=>by unfold Own at h;rw [h.2];intro a ha;cases ha
 | .str x,_,_,h=>by unfold Own at h;rw [h.2];intro a ha;cases ha
 | .lst ds,_,_,h=>by
  unfold Own at h
  obtain ⟨a,vs,M,e,h1,h2,n,rfl⟩:=h
  intro b hb
  rcases List.mem_cons.mp hb with rfl | hb
  ·
   exact ⟨_,h1⟩
  ·
   exact aJ.cell ds h2 b hb
 | .tup ds,_,_,h=>by
  unfold Own at h
  obtain ⟨a,vs,M,e,h1,h2,n,rfl⟩:=h
  intro b hb
  rcases List.mem_cons.mp hb with rfl | hb
  ·
   exact ⟨_,h1⟩
  ·
   exact aJ.cell ds h2 b hb
 | .obj C fs,_,_,h=>by
  unfold Own at h
  obtain ⟨a,dx,vs,M,e,h1,h3,h2,n,n2,rfl⟩:=h
  intro b hb
  rcases List.mem_cons.mp hb with rfl | hb
  ·
   exact ⟨_,h1⟩
  ·
   rcases List.mem_cons.mp hb with rfl | hb
   ·
    exact ⟨_,h3⟩
   ·
    exact aT.cell fs h2 b hb
theorem aJ.cell:∀ (ds:List D) {vs:List V} {L:List Addr},aJ H ds vs L→∀ a∈L,∃ o,H a=some o
 | [],_,_,h=>by unfold aJ at h;rw [h.2];intro a ha;cases ha
 | d::ds,_,_,h=>by
  unfold aJ at h
  obtain ⟨v,r,M,N,e,h1,h2,n,rfl⟩:=h
  intro b hb
  rcases List.mem_append.mp hb with hb | hb
  ·
   exact Own.cell d h1 b hb
  ·
   exact aJ.cell ds h2 b hb
theorem aT.cell:∀ (fs:List (Str×D)) {vs:List (Str×V)} {L:List Addr},aT H fs vs L→∀ a∈L,∃ o,H a=some o
  | [],_,_,h=>by unfold aT at h;rw [h.2];intro a ha;cases ha
  | (f,d)::fs,_,_,h=>by
    unfold aT at h
    obtain ⟨v,r,M,N,e,h1,h2,n,rfl⟩:=h
    intro b hb
    rcases List.mem_append.mp hb with hb | hb
    · exact Own.cell d h1 b hb
    · exact aT.cell fs h2 b hb
end
mutual
theorem Own.uniq:∀ (d:D) {v:V} {L L':List Addr},Own H d v L→Own H d v L'→L=L'
 | .non,_,_,_,h,h'=>by unfold Own at h h';rw [h.2,h'.2]
 | .bl b,_,_,_,h,h'=>by unfold Own at h h';rw [h.2,h'.2]
 | .int i,_,_,_,h,h'=>by unfold Own at h h';rw [h.2,h'.2]
 | .str x,_,_,_,h,h'=>by unfold Own at h h';rw [h.2,h'.2]
 | .lst ds,_,_,_,h,h'=>by
  unfold Own at h h'
  obtain ⟨a,vs,M,e,h1,h2,n,rfl⟩:=h
  obtain ⟨a',vs',M',e',h1',h2',n',rfl⟩:=h'
  rw [e] at e';cases e'
  rw [h1] at h1';cases h1'
  rw [aJ.uniq ds h2 h2']
 | .tup ds,_,_,_,h,h'=>by
  unfold Own at h h'
  obtain ⟨a,vs,M,e,h1,h2,n,rfl⟩:=h
  obtain ⟨a',vs',M',e',h1',h2',n',rfl⟩:=h'
  rw [e] at e';cases e'
  rw [h1] at h1';cases h1'
  rw [aJ.uniq ds h2 h2']
 | .obj C fs,_,_,_,h,h'=>by
  unfold Own at h h'
  obtain ⟨a,dx,vs,M,e,h1,h3,h2,n,n2,rfl⟩:=h
  obtain ⟨a',dx',vs',M',e',h1',h3',h2',n',n2',rfl⟩:=h'
  rw [e] at e';cases e'
  rw [h1] at h1';cases h1'
  rw [aT.uniq fs h2 h2']
theorem aJ.uniq:∀ (ds:List D) {vs:List V} {L L':List Addr},aJ H ds vs L→aJ H ds vs L'→L=L'
 | [],_,_,_,h,h'=>by unfold aJ at h h';rw [h.2,h'.2]
 | d::ds,_,_,_,h,h'=>by
  unfold aJ at h h'
  obtain ⟨v,r,M,N,e,h1,h2,n,rfl⟩:=h
  obtain ⟨v',r',M',N',e',h1',h2',n',rfl⟩:=h'
  rw [e] at e';cases e'
  rw [Own.uniq d h1 h1',aJ.uniq ds h2 h2']
theorem aT.uniq:∀ (fs:List (Str×D)) {vs:List (Str×V)} {L L':List Addr},aT H fs vs L→aT H fs vs L'→L=L'
  | [],_,_,_,h,h'=>by unfold aT at h h';rw [h.2,h'.2]
  | (f,d)::fs,_,_,_,h,h'=>by
    unfold aT at h h'
    obtain ⟨v,r,M,N,e,h1,h2,n,rfl⟩:=h
    obtain ⟨v',r',M',N',e',h1',h2',n',rfl⟩:=h'
    rw [e] at e';cases e'
    rw [Own.uniq d h1 h1',aT.uniq fs h2 h2']
end
theorem Own.mono (k:aN H H') {d:D} {v:V} {L:List Addr} (h:Own H d v L):Own H' d v L:=h.agree d fun a ha=>by
 obtain ⟨o,ho⟩:=Own.cell d h a ha
 rw [ho,k _ _ ho]
theorem aJ.mono (k:aN H H') {d:List D} {v:List V} {L:List Addr} (h:aJ H d v L):aJ H' d v L:=h.agree d fun a ha=>by
 obtain ⟨o,ho⟩:=aJ.cell d h a ha
 rw [ho,k _ _ ho]
theorem aT.mono (k:aN H H') {d:List (Str×D)} {v:List (Str×V)} {L:List Addr} (h:aT H d v L):aT H' d v L:=h.agree d fun a ha=>by
 obtain ⟨o,ho⟩:=aT.cell d h a ha
 rw [ho,k _ _ ho]
end
inductive R where
 | sh (d:D)
 | fr (ds:List D)
 | bw (ds:List D)
def R.view:R→D
 | .sh d=>d
 | .fr ds=>.lst ds
 | .bw ds=>.lst ds
inductive E where
 | sh (d:D)
 | ow (ds:List D)
 | ob (a C:Addr) (fs:List (Str×D))
 | nw (d:D)
 | on (a:Addr) (d:D)
 | scr (K:PySem.W.Frag) (ns:List Int)
abbrev DSt:=List (Option E)
structure Wd (H Hs Hs' H':Hp):Prop where
 keep:aN H H'
 sub:aN Hs' H'
 base:aN Hs Hs'
 new:∀ a o,Hs' a=some o→Hs a=some o∨H a=none
theorem Wd.refl {H Hs:Hp} (s:aN Hs H):Wd H Hs Hs H:=⟨.refl _,s,.refl _,fun _ _ e=>.inl e⟩
theorem Wd.trans {H Hs H1s H1 H2s H2:Hp} (a:Wd H Hs H1s H1) (b:Wd H1 H1s H2s H2):Wd H Hs H2s H2:=
 ⟨a.keep.trans b.keep,b.sub,a.base.trans b.base,fun c o e=>by
  rcases b.new c o e with q | q
  ·
   exact a.new c o q
  ·
   exact .inr (a.keep.free q)⟩
theorem Wd.stay {H Hs Hs' H':Hp} (w:Wd H Hs Hs' H') {a:Addr} {o:HO} (h:H a=some o) (n:Hs a=none):Hs' a=none:=by
 cases e:Hs' a with
 | none=>rfl
 | some u=>
  rcases w.new a u e with q | q
  ·
   rw [n] at q;cases q
  ·
   rw [h] at q;cases q
theorem Wd.lay {H Hs:Hp} (s:aN Hs H) {p:Addr} {o:HO} (n:H p=none):Wd H Hs (upd Hs p o) (upd H p o):=
 ⟨.new n,s.updS,.new (s.free n),fun a u e=>by
  by_cases ha:a=p
  ·
   subst ha;exact .inr n
  ·
   rw [aH ha] at e;exact .inl e⟩
theorem Wd.fresh {H Hs:Hp} (s:aN Hs H) {p:Addr} {o:HO} (n:H p=none):Wd H Hs Hs (upd H p o):=
 ⟨.new n,s.trans (.new n),.refl _,fun _ _ e=>.inl e⟩
def dq (H0 Hs H:Hp):R→V→Prop
 | .sh d,v=>Rep Hs d v
 | .fr ds,v=>∃ a vs,v=.ref a∧H0 a=none∧Hs a=none∧H a=some (.lst vs)∧aE Hs ds vs
 | .bw ds,v=>∃ a vs,v=.ref a∧H a=some (.lst vs)∧aE Hs ds vs
def View (Hs H:Hp) (d:D) (v:V):Prop:=Rep Hs d v∨∃ ds a vs,d=.lst ds∧v=.ref a∧H a=some (.lst vs)∧aE Hs ds vs
theorem gm {K:PySem.W.Frag} {H H':Hp} {a:Addr} {xs:List V} (s:aN H H') (h:SqL K H a xs):SqL K H' a xs:=by
 rcases h with (h | ⟨o,h⟩) | h
 ·
  exact .inl (.inl (s _ _ h))
 ·
  exact .inl (.inr ⟨o,s _ _ h⟩)
 ·
  exact .inr h
def fu (Hs H:Hp):E→V→Prop
 | .sh d,v=>Rep Hs d v
 | .ow ds,v=>∃ a vs,v=.ref a∧Hs a=none∧H a=some (.lst vs)∧aE Hs ds vs
 | .ob a C fs,v=>v=.ref a∧∃ dx fvs,Hs a=none∧Hs dx=none∧H a=some (.ins C dx fvs)∧H dx=some (.own a)∧dO Hs fs fvs
 | .nw d,v=>∃ L,Own H d v L∧∀ a∈L,Hs a=none
 | .on b d,v=>v=.ref b∧∃ L,Own H d v L∧∀ a∈L,Hs a=none
 | .scr K ns,v=>∃ a,v=.ref a∧SqL K Hs a (ns.map V.int)
def eZ (Hs H:Hp) (δ:DSt) (σ:St):Prop:=∀ (i:Nat) (e:E),δ[i]?=some (some e)→∃ v,σ[i]?=some (some v)∧fu Hs H e v
section
variable {H0 H Hs Hs' H':Hp}
theorem dq.mono (w:Wd H Hs Hs' H') {r:R} {v:V} (h:dq H0 Hs H r v):dq H0 Hs' H' r v:=by
 cases r with
 | sh d=>exact Rep.mono w.base d h
 | fr ds=>
  obtain ⟨a,vs,e,n,m,h1,h2⟩:=h
  exact ⟨a,vs,e,n,w.stay h1 m,w.keep _ _ h1,aE.mono w.base ds h2⟩
 | bw ds=>
  obtain ⟨a,vs,e,h1,h2⟩:=h
  exact ⟨a,vs,e,w.keep _ _ h1,aE.mono w.base ds h2⟩
theorem dq.older {H1:Hp} (k:aN H0 H1) {r:R} {v:V} (h:dq H1 Hs H r v):dq H0 Hs H r v:=by
 cases r with
 | sh d=>exact h
 | fr ds=>
  obtain ⟨a,vs,e,n,m,h1,h2⟩:=h
  exact ⟨a,vs,e,k.free n,m,h1,h2⟩
 | bw ds=>exact h
theorem dq.view {r:R} {v:V} (h:dq H0 Hs H r v):View Hs H r.view v:=by
 cases r with
 | sh d=>exact .inl h
 | fr ds=>
  obtain ⟨a,vs,e,n,m,h1,h2⟩:=h
  exact .inr ⟨ds,a,vs,rfl,e,h1,h2⟩
 | bw ds=>
  obtain ⟨a,vs,e,h1,h2⟩:=h
  exact .inr ⟨ds,a,vs,rfl,e,h1,h2⟩
theorem View.lst (s:aN Hs H) {ds:List D} {v:V} (h:View Hs H (.lst ds) v):∃ a vs,v=.ref a∧H a=some (.lst vs)∧aE Hs ds vs:=by
 rcases h with h | ⟨ds',a,vs,e,e2,h1,h2⟩
 ·
  unfold Rep at h
  obtain ⟨a,vs,e,h1,h2⟩:=h
  exact ⟨a,vs,e,s _ _ h1,h2⟩
 ·
  cases e
  exact ⟨a,vs,e2,h1,h2⟩
theorem View.tup (s:aN Hs H) {ds:List D} {v:V} (h:View Hs H (.tup ds) v):∃ a vs,v=.ref a∧H a=some (.tup vs)∧aE Hs ds vs:=by
 rcases h with h | ⟨ds',a,vs,e,e2,h1,h2⟩
 ·
  unfold Rep at h
  obtain ⟨a,vs,e,h1,h2⟩:=h
  exact ⟨a,vs,e,s _ _ h1,h2⟩
 ·
  cases e
theorem View.obj (s:aN Hs H) {C:Addr} {fs:List (Str×D)} {v:V} (h:View Hs H (.obj C fs) v):∃ a dx fvs,v=.ref a∧H a=some (.ins C dx fvs)∧dO Hs fs fvs:=by
 rcases h with h | ⟨ds',a,vs,e,e2,h1,h2⟩
 ·
  unfold Rep at h
  obtain ⟨a,dx,vs,e,h1,h2⟩:=h
  exact ⟨a,dx,vs,e,s _ _ h1,h2⟩
 ·
  cases e
theorem View.int {i:Int} {v:V} (h:View Hs H (.int i) v):v=.int i:=by
 rcases h with h | ⟨_,_,_,e,_⟩
 ·
  unfold Rep at h;exact h
 ·
  cases e
theorem View.bl {b:Bool} {v:V} (h:View Hs H (.bl b) v):v=.bl b:=by
 rcases h with h | ⟨_,_,_,e,_⟩
 ·
  unfold Rep at h;exact h
 ·
  cases e
theorem View.str {x:Str} {v:V} (h:View Hs H (.str x) v):v=.str x:=by
 rcases h with h | ⟨_,_,_,e,_⟩
 ·
  unfold Rep at h;exact h
 ·
  cases e
theorem View.non {v:V} (h:View Hs H .non v):v=.non:=by
 rcases h with h | ⟨_,_,_,e,_⟩
 ·
  unfold Rep at h;exact h
 ·
  cases e
theorem fu.mono (w:Wd H Hs Hs' H') {e:E} {v:V} (h:fu Hs H e v):fu Hs' H' e v:=by
 cases e with
 | sh d=>exact Rep.mono w.base d h
 | ow ds=>
  obtain ⟨a,vs,e,m,h1,h2⟩:=h
  exact ⟨a,vs,e,w.stay h1 m,w.keep _ _ h1,aE.mono w.base ds h2⟩
 | ob a C fs=>
  obtain ⟨e,dx,fvs,m,m2,h1,h3,h2⟩:=h
  exact ⟨e,dx,fvs,w.stay h1 m,w.stay h3 m2,w.keep _ _ h1,w.keep _ _ h3,dO.mono w.base fs h2⟩
 | nw d=>
  obtain ⟨L,h1,h2⟩:=h
  exact ⟨L,h1.mono w.keep,fun a ha=>by
   obtain ⟨o,ho⟩:=Own.cell d h1 a ha
   exact w.stay ho (h2 a ha)⟩
 | on b d=>
  obtain ⟨e,L,h1,h2⟩:=h
  exact ⟨e,L,h1.mono w.keep,fun a ha=>by
   obtain ⟨o,ho⟩:=Own.cell d h1 a ha
   exact w.stay ho (h2 a ha)⟩
 | scr K ns=>
  obtain ⟨a,e,h1⟩:=h
  exact ⟨a,e,gm w.base h1⟩
theorem eZ.mono (w:Wd H Hs Hs' H') {δ:DSt} {σ:St} (h:eZ Hs H δ σ):eZ Hs' H' δ σ:=fun i e q=>by
 obtain ⟨v,h1,h2⟩:=h i e q
 exact ⟨v,h1,h2.mono w⟩
theorem dq.freeze (s:aN Hs H) {r:R} {v:V} (hb:∀ ds,r≠.bw ds) (h:dq H0 Hs H r v):∃ Hs1,Rep Hs1 r.view v∧aN Hs1 H∧aN Hs Hs1∧∀ a o,Hs1 a=some o→Hs a=some o∨H0 a=none:=by
 cases r with
 | sh d=>exact ⟨Hs,h,s,.refl _,fun _ _ e=>.inl e⟩
 | fr ds=>
  obtain ⟨a,vs,e,n,m,h1,h2⟩:=h
  refine ⟨L2.upd Hs a (.lst vs),?_,fun b o q=>?_,.new m,fun b o q=>?_⟩
  ·
   show Rep _ (.lst ds) v
   unfold Rep
   exact ⟨a,vs,e,aF,aE.mono (.new m) ds h2⟩
  ·
   by_cases hb:b=a
   ·
    subst hb;rw [aF] at q;cases q;exact h1
   ·
    rw [aH hb] at q;exact s _ _ q
  ·
   by_cases hb:b=a
   ·
    subst hb;exact .inr n
   ·
    rw [aH hb] at q;exact .inl q
 | bw ds=>exact absurd rfl (hb ds)
theorem dq.share {H0:Hp} (w:Wd H0 Hs Hs' H') {r:R} {v:V} (hb:∀ ds,r≠.bw ds) (h:dq H0 Hs' H' r v):∃ Hs1,Rep Hs1 r.view v∧Wd H0 Hs Hs1 H':=by
 obtain ⟨Hs1,h1,h2,h3,h4⟩:=h.freeze w.sub hb
 exact ⟨Hs1,h1,w.keep,h2,w.base.trans h3,fun a o e=>by
  rcases h4 a o e with q | q
  ·
   exact w.new a o q
  ·
   exact .inr q⟩
end
abbrev FE:=DSt→Option R
def tD (f:FE):TE:=fun σ H Q=>∃ Hs δ r,aN Hs H∧eZ Hs H δ σ∧f δ=some r∧∀ v Hs' H',Wd H Hs Hs' H'→dq H Hs' H' r v→Q v H'
structure DE (X:Cx) (e:Expr) (f:FE):Prop where
 go:PE X e (tD f)
def tDT (f:DSt→Option Bool):TT:=fun σ H Q=>∃ Hs δ b,aN Hs H∧eZ Hs H δ σ∧f δ=some b∧∀ Hs' H',Wd H Hs Hs' H'→Q b H'
structure DT (X:Cx) (e:Expr) (f:DSt→Option Bool):Prop where
 go:PT X e (tDT f)
structure DW (X:Cx) (e:Expr) (f:DSt→Option Bool):Prop where
 go:PW X e (tDT f)
def dM (H0 Hs H:Hp):List R→List V→Prop
 | [],vs=>vs=[]
 | r::rs,vs=>∃ v t,vs=v::t∧dq H0 Hs H r v∧dM H0 Hs H rs t
def tDA (f:DSt→Option (List R)):TA:=fun σ H Q=>∃ Hs δ rs,aN Hs H∧eZ Hs H δ σ∧f δ=some rs∧∀ vs Hs' H',Wd H Hs Hs' H'→dM H Hs' H' rs vs→Q vs H'
structure DA (X:Cx) (es:List Expr) (f:DSt→Option (List R)):Prop where
 go:PA X es (tDA f)
def ab (i:Nat):FE:=fun δ=>match δ[i]? with
 | some (some (.sh d))=>some (.sh d)
 | some (some (.ow ds))=>some (.bw ds)
 | _=>none
def ac (d:D):FE:=fun _=>some (.sh d)
def ad (o:D→D→Option R) (fa fb:FE):FE:=fun δ=>(fa δ).bind fun a=>(fb δ).bind fun b=>o a.view b.view
def dun (o:D→Option R) (fa:FE):FE:=fun δ=>(fa δ).bind fun a=>o a.view
section
variable {X:Cx} {a b c e:Expr} {fa fb fc f:FE} {pos:Pos}
theorem de_var {i:Nat} {x:Str} (h:PE X (.Name x pos) (jY i)):DE X (.Name x pos) (ab i):=.mk <| h.weak fun σ H Q ⟨Hs,δ,r,S,En,e,K⟩=>by
 unfold ab at e
 cases q:δ[i]? with
 | none=>rw [q] at e;cases e
 | some o=>
  cases o with
  | none=>rw [q] at e;cases e
  | some en=>
   rw [q] at e
   obtain ⟨v,hv,hr⟩:=En i en q
   refine ⟨v,hv,K v Hs H (.refl S) ?_⟩
   cases en with
   | sh d=>cases e;exact hr
   | ow ds=>
    cases e
    obtain ⟨a,vs,e1,_,h1,h2⟩:=hr
    exact ⟨a,vs,e1,h1,h2⟩
   | ob a C fs=>cases e
   | nw d=>cases e
   | on b d=>cases e
   | scr K ns=>cases e
theorem mP {d:D} {v:V} (h:PE X e (tC v)) (r:∀ H,Rep H d v):DE X e (ac d):=.mk <| h.weak fun σ H Q ⟨Hs,δ,r',S,En,e,K⟩=>by
 cases e
 exact K v Hs H (.refl S) (r Hs)
def rD (o:D→D→Option R):R2:=fun x y H Q=>∃ Hs d1 d2 r,aN Hs H∧View Hs H d1 x∧View Hs H d2 y∧o d1 d2=some r∧∀ v Hs' H',Wd H Hs Hs' H'→dq H Hs' H' r v→Q v H'
def rD1 (o:D→Option R):V→Hp→VK→Prop:=fun x H Q=>∃ Hs d r,aN Hs H∧View Hs H d x∧o d=some r∧∀ v Hs' H',Wd H Hs Hs' H'→dq H Hs' H' r v→Q v H'
theorem mQ {o:D→D→Option R} {σ:St} {H:Hp} {Q:VK} (h:tD (ad o fa fb) σ H Q):tOp (rD o) (tD fa) (tD fb) σ H Q:=by
 obtain ⟨Hs,δ,r,S,En,e,K⟩:=h
 unfold ad at e
 cases ea:fa δ with
 | none=>rw [ea] at e;cases e
 | some ra=>
  cases eb:fb δ with
  | none=>rw [ea,eb] at e;cases e
  | some rb=>
   rw [ea,eb] at e
   refine ⟨Hs,δ,ra,S,En,ea,fun x Hs1 H1 W1 R1=>⟨Hs1,δ,rb,W1.sub,En.mono W1,eb,fun y Hs2 H2 W2 R2=>?_⟩⟩
   refine ⟨Hs2,ra.view,rb.view,r,W2.sub,(R1.mono W2).view,R2.view,e,fun v Hs3 H3 W3 R3=>?_⟩
   exact K v Hs3 H3 (W1.trans (W2.trans W3)) (R3.older (W1.keep.trans W2.keep))
theorem aX {op:Operator} {o:D→D→Option R} (ho:OpR X (binaryOp op) (rD o)) (ha:DE X a fa) (hb:DE X b fb):DE X (.BinOp a op b pos) (ad o fa fb):=.mk <| (pe_op ho ha.go hb.go).weak fun _ _ _=>mQ
theorem mR {op:CmpOp} {o:D→D→Option R} (ho:OpR X (compareOp op) (rD o)) (ha:DE X a fa) (hb:DE X b fb) (hm:behindInMarks op b=false):DE X (.Compare a [op] [b] pos) (ad o fa fb):=.mk <| (pe_cmpR ho ha.go hb.go hm).weak fun _ _ _=>mQ
theorem de_ix {o:D→D→Option R} (ho:IxR X (rD o)) (ha:DE X a fa) (hb:DE X b fb) (hs:kq b):DE X (.Subscript a b pos) (ad o fa fb):=.mk <| (pe_ix ho ha.go hb.go hs).weak fun _ _ _=>mQ
def R.bool:R→Option Bool
 | .sh (.bl b)=>some b
 | _=>none
def aj (f:FE):DSt→Option Bool:=fun δ=>(f δ).bind R.bool
theorem mS {σ:St} {H:Hp} {Q:Bool→Hp→Prop} (h:tDT (aj f) σ H Q):tTest (tD f) σ H Q:=by
 obtain ⟨Hs,δ,b,S,En,e,K⟩:=h
 unfold aj at e
 cases ea:f δ with
 | none=>rw [ea] at e;cases e
 | some ra=>
  rw [ea] at e
  refine ⟨Hs,δ,ra,S,En,ea,fun x Hs1 H1 W1 R1=>?_⟩
  cases ra with
  | sh d=>
   cases d with
   | bl c=>
    cases e
    have R1:Rep Hs1 (.bl b) x:=R1
    unfold Rep at R1
    exact ⟨b,R1,K Hs1 H1 W1⟩
   | _=>cases e
  | _=>cases e
theorem kK {op:CmpOp} {o:D→D→Option R} (ho:OpR X (compareOp op) (rD o)) (ha:DE X a fa) (hb:DE X b fb) (hm:behindInMarks op b=false):DT X (.Compare a [op] [b] pos) (aj (ad o fa fb)):=.mk <|
 (pt_cmpR ho ha.go hb.go hm).weak fun σ H Q h=>by
  obtain ⟨Hs,δ,r,S,En,e,K⟩:=mS h
  exact mQ ⟨Hs,δ,r,S,En,e,K⟩
theorem bj (h:DE X e f) (he:∀ whole,isTrue e X.env whole=(do let v ←whole;standAt e.pos;holding [v] (truthy v)):=by intro _;rfl):DT X e (aj f):=.mk <| (pt_val h.go he).weak fun _ _ _=>mS
def cS (o o':D→D→Option R) (fa fb fc:FE):FE:=fun δ=>(fa δ).bind fun a=>(fb δ).bind fun b=>(o a.view b.view).bind fun r=>match r with
 | .sh (.bl true)=>(fc δ).bind fun c=>o' b.view c.view
 | .sh (.bl false)=>some (.sh (.bl false))
 | _=>none
theorem nR {o o':D→D→Option R} {σ:St} {H:Hp} {Q:VK} (h:tD (cS o o' fa fb fc) σ H Q):tChain (rD o) (rD o') (tD fa) (tD fb) (tD fc) σ H Q:=by
 obtain ⟨Hs,δ,r,S,En,e,K⟩:=h
 unfold cS at e
 cases ea:fa δ with
 | none=>rw [ea] at e;cases e
 | some ra=>
  cases eb:fb δ with
  | none=>rw [ea,eb] at e;cases e
  | some rb=>
   rw [ea,eb] at e
   replace e:((o ra.view rb.view).bind fun r=>match r with
    | .sh (.bl true)=>(fc δ).bind fun c=>o' rb.view c.view
    | .sh (.bl false)=>some (R.sh (.bl false))
    | _=>none)=some r:=e
   cases eo:o ra.view rb.view with
   | none=>rw [eo] at e;cases e
   | some ro=>
    rw [eo] at e
    refine ⟨Hs,δ,ra,S,En,ea,fun x Hs1 H1 W1 R1=>⟨Hs1,δ,rb,W1.sub,En.mono W1,eb,fun y Hs2 H2 W2 R2=>?_⟩⟩
    refine ⟨Hs2,ra.view,rb.view,ro,W2.sub,(R1.mono W2).view,R2.view,eo,fun v Hs3 H3 W3 R3=>?_⟩
    cases ro with
    | sh d=>
     cases d with
     | bl k=>
      have R3:Rep Hs3 (.bl k) v:=R3
      unfold Rep at R3
      refine ⟨k,R3,?_⟩
      cases k with
      | true=>
       replace e:((fc δ).bind fun c=>o' rb.view c.view)=some r:=e
       cases ec:fc δ with
       | none=>rw [ec] at e;cases e
       | some rc=>
        rw [ec] at e
        rw [if_pos rfl]
        have W12:=W1.trans (W2.trans W3)
        refine ⟨Hs3,δ,rc,W3.sub,En.mono W12,ec,fun z Hs4 H4 W4 R4=>?_⟩
        refine ⟨Hs4,rb.view,rc.view,r,W4.sub,((R2.mono W3).mono W4).view,R4.view,e,fun v Hs5 H5 W5 R5=>?_⟩
        exact K v Hs5 H5 (W12.trans (W4.trans W5)) (R5.older (W12.keep.trans W4.keep))
      | false=>
       cases e
       rw [if_neg Bool.false_ne_true]
       exact K _ Hs3 H3 (W1.trans (W2.trans W3)) (by show Rep Hs3 (.bl false) _;unfold Rep;rfl)
     | _=>cases e
    | _=>cases e
theorem nS {op op':CmpOp} {o o':D→D→Option R} (ho:OpR X (compareOp op) (rD o)) (ho':OpR X (compareOp op') (rD o')) (ha:DE X a fa) (hb:DE X b fb) (hc:DE X c fc)
 (hm:lastMarks [op,op'] [b,c]=false:=by with_unfolding_all rfl):DE X (.Compare a [op,op'] [b,c] pos) (cS o o' fa fb fc):=.mk <| (pe_chain ho ho' ha.go hb.go hc.go hm).weak fun _ _ _=>nR
theorem kL {op op':CmpOp} {o o':D→D→Option R} (ho:OpR X (compareOp op) (rD o)) (ho':OpR X (compareOp op') (rD o')) (ha:DE X a fa) (hb:DE X b fb) (hc:DE X c fc)
  (hm:lastMarks [op,op'] [b,c]=false:=by with_unfolding_all rfl):DT X (.Compare a [op,op'] [b,c] pos) (aj (cS o o' fa fb fc)):=.mk <|
 (pt_chain ho ho' ha.go hb.go hc.go hm).weak fun σ H Q h=>by
  obtain ⟨Hs,δ,r,S,En,e,K⟩:=mS h
  exact nR ⟨Hs,δ,r,S,En,e,K⟩
def fv (f g:DSt→Option Bool):DSt→Option Bool:=fun δ=>(f δ).bind fun c=>if c=true then g δ else some false
def bo (f g:DSt→Option Bool):DSt→Option Bool:=fun δ=>(f δ).bind fun c=>if c=true then some true else g δ
def aU (f:DSt→Option Bool):DSt→Option Bool:=fun δ=>(f δ).map (!·)
variable {tf tg:DSt→Option Bool} {rest:List Expr}
theorem dw_and1 (ha:DT X a tf):DW X (.BoolOp .And [a] pos) tf:=.mk <| pw_and1 ha.go
theorem dw_or1 (ha:DT X a tf):DW X (.BoolOp .Or [a] pos) tf:=.mk <| pw_or1 ha.go
theorem dw_and (ha:DT X a tf) (hb:DW X (.BoolOp .And (b::rest) pos) tg):DW X (.BoolOp .And (a::b::rest) pos) (fv tf tg):=.mk <| (pw_and ha.go hb.go).weak fun σ H Q h=>by
 obtain ⟨Hs,δ,r,S,En,e,K⟩:=h
 unfold fv at e
 cases ea:tf δ with
 | none=>rw [ea] at e;cases e
 | some k=>
  rw [ea] at e
  refine ⟨Hs,δ,k,S,En,ea,fun Hs1 H1 W1=>?_⟩
  cases k with
  | true=>
   rw [if_pos rfl]
   exact ⟨Hs1,δ,r,W1.sub,En.mono W1,e,fun Hs2 H2 W2=>K Hs2 H2 (W1.trans W2)⟩
  | false=>cases e;rw [if_neg Bool.false_ne_true];exact K Hs1 H1 W1
theorem lW (ha:DT X a tf) (hb:DW X (.BoolOp .Or (b::rest) pos) tg):DW X (.BoolOp .Or (a::b::rest) pos) (bo tf tg):=.mk <| (pw_or ha.go hb.go).weak fun σ H Q h=>by
 obtain ⟨Hs,δ,r,S,En,e,K⟩:=h
 unfold bo at e
 cases ea:tf δ with
 | none=>rw [ea] at e;cases e
 | some k=>
  rw [ea] at e
  refine ⟨Hs,δ,k,S,En,ea,fun Hs1 H1 W1=>?_⟩
  cases k with
  | true=>cases e;rw [if_pos rfl];exact K Hs1 H1 W1
  | false=>
   rw [if_neg Bool.false_ne_true]
   exact ⟨Hs1,δ,r,W1.sub,En.mono W1,e,fun Hs2 H2 W2=>K Hs2 H2 (W1.trans W2)⟩
theorem DW.dt (h:DW X e tf):DT X e tf:=.mk <| PW.pt h.go
theorem br (ha:DT X a tf):DT X (.UnaryOp .Not a pos) (aU tf):=.mk <| (pt_not ha.go).weak fun σ H Q h=>by
 obtain ⟨Hs,δ,r,S,En,e,K⟩:=h
 unfold aU at e
 cases ea:tf δ with
 | none=>rw [ea] at e;cases e
 | some k=>
  rw [ea] at e
  cases e
  exact ⟨Hs,δ,k,S,En,ea,fun Hs1 H1 W1=>K Hs1 H1 W1⟩
def e7 (fa fb:FE):FE:=fun δ=>(fa δ).bind fun r=>match r with
 | .sh (.bl true)=>fb δ
 | .sh (.bl false)=>some (.sh (.bl false))
 | _=>none
def dor (fa fb:FE):FE:=fun δ=>(fa δ).bind fun r=>match r with
 | .sh (.bl true)=>some (.sh (.bl true))
 | .sh (.bl false)=>fb δ
 | _=>none
def dnot (fa:FE):FE:=fun δ=>(fa δ).bind fun r=>match r with
 | .sh (.bl b)=>some (.sh (.bl (!b)))
 | _=>none
theorem shB (H0 Hs H:Hp) (b:Bool):dq H0 Hs H (.sh (.bl b)) (.bl b):=by show Rep Hs (.bl b) (.bl b);unfold Rep;rfl
theorem shI (H0 Hs H:Hp) (i:Int):dq H0 Hs H (.sh (.int i)) (.int i):=by show Rep Hs (.int i) (.int i);unfold Rep;rfl
theorem shS (H0 Hs H:Hp) (x:Str):dq H0 Hs H (.sh (.str x)) (.str x):=by show Rep Hs (.str x) (.str x);unfold Rep;rfl
theorem unB {H0 Hs H:Hp} {b:Bool} {v:V} (h:dq H0 Hs H (.sh (.bl b)) v):v=.bl b:=by have h:Rep Hs (.bl b) v:=h;unfold Rep at h;exact h
theorem gp {op} (h:DE X a fa):DE X (.BoolOp op [a] pos) fa:=.mk <| pe_one h.go
theorem dr (ha:DE X a fa) (hb:DE X (.BoolOp .And (b::rest) pos) fb):DE X (.BoolOp .And (a::b::rest) pos) (e7 fa fb):=.mk <| (pe_and ha.go hb.go).weak fun σ H Q h=>by
 obtain ⟨Hs,δ,r,S,En,e,K⟩:=h
 unfold e7 at e
 cases ea:fa δ with
 | none=>rw [ea] at e;cases e
 | some k=>
  rw [ea] at e
  refine ⟨Hs,δ,k,S,En,ea,fun x Hs1 H1 W1 R1=>?_⟩
  match k,e,R1 with
  | .sh (.bl true),e,R1=>
   refine ⟨true,unB R1,?_⟩
   rw [if_pos rfl]
   exact ⟨Hs1,δ,r,W1.sub,En.mono W1,e,fun v Hs2 H2 W2 R2=>K v Hs2 H2 (W1.trans W2) (R2.older W1.keep)⟩
  | .sh (.bl false),e,R1=>
   cases e
   refine ⟨false,unB R1,?_⟩
   rw [if_neg Bool.false_ne_true]
   exact K _ Hs1 H1 W1 (shB _ _ _ _)
theorem de_not (ha:DE X a fa):DE X (.UnaryOp .Not a pos) (dnot fa):=.mk <| (pe_not ha.go).weak fun σ H Q h=>by
 obtain ⟨Hs,δ,r,S,En,e,K⟩:=h
 unfold dnot at e
 cases ea:fa δ with
 | none=>rw [ea] at e;cases e
 | some k=>
  rw [ea] at e
  refine ⟨Hs,δ,k,S,En,ea,fun x Hs1 H1 W1 R1=>?_⟩
  match k,e,R1 with
  | .sh (.bl k),e,R1=>
   cases e
   exact ⟨k,unB R1,K _ Hs1 H1 W1 (shB _ _ _ _)⟩
def dif (t:DSt→Option Bool) (fa fb:FE):FE:=fun δ=>(t δ).bind fun k=>if k=true then fa δ else fb δ
theorem de_ifExp {c:Expr} (hc:DT X c tf) (ha:DE X a fa) (hb:DE X b fb):DE X (.IfExp c a b pos) (dif tf fa fb):=.mk <| (pe_ifExp hc.go ha.go hb.go).weak fun σ H Q h=>by
 obtain ⟨Hs,δ,r,S,En,e,K⟩:=h
 unfold dif at e
 cases ea:tf δ with
 | none=>rw [ea] at e;cases e
 | some k=>
  rw [ea] at e
  refine ⟨Hs,δ,k,S,En,ea,fun Hs1 H1 W1=>?_⟩
  cases k with
  | true=>
   rw [if_pos rfl]
   exact ⟨Hs1,δ,r,W1.sub,En.mono W1,e,fun v Hs2 H2 W2 R2=>K v Hs2 H2 (W1.trans W2) (R2.older W1.keep)⟩
  | false=>
   rw [if_neg Bool.false_ne_true]
   exact ⟨Hs1,δ,r,W1.sub,En.mono W1,e,fun v Hs2 H2 W2 R2=>K v Hs2 H2 (W1.trans W2) (R2.older W1.keep)⟩
end
end Ew
end
section
set_option Elab.async false
set_option linter.all false
set_option maxRecDepth 100000
namespace Ew
open PySem PySem.Spec L2
def big:Nat:=100000
theorem bZ {n:Nat} (h:n≤big):n<sizeLine:=Nat.lt_of_le_of_lt h (by rw [PySem.sizeLine_eq];decide)
def noStar:Expr→Bool
 | .Starred _ _=>false
 | _=>true
theorem bP {e:Expr} (h:noStar e=true) {es:List Expr} {env:Env}:starEach (e::es) env=(false,eval e env)::starEach es env:=by
 cases e <;> first | rfl | cases h
def ah:DSt→Option (List R):=fun _=>some []
def aa (fa:FE) (fr:DSt→Option (List R)):DSt→Option (List R):=fun δ=>(fa δ).bind fun r=>(fr δ).bind fun rs=>some (r::rs)
theorem dM.mono {H0 H Hs Hs' H':Hp} (w:Wd H Hs Hs' H'):∀ {rs:List R} {vs:List V},dM H0 Hs H rs vs→dM H0 Hs' H' rs vs
 | [],_,h=>h
 | r::rs,_,⟨v,t,e,h1,h2⟩=>⟨v,t,e,h1.mono w,dM.mono w h2⟩
theorem dM.older {H0 H1 H Hs:Hp} (k:aN H0 H1):∀ {rs:List R} {vs:List V},dM H1 Hs H rs vs→dM H0 Hs H rs vs
 | [],_,h=>h
 | r::rs,_,⟨v,t,e,h1,h2⟩=>⟨v,t,e,h1.older k,dM.older k h2⟩
section
variable {X:Cx} {e:Expr} {es:List Expr} {fa:FE} {fr:DSt→Option (List R)} {pos:Pos}
theorem fO:DA X [] ah:=.mk <| eE.weak fun σ H Q ⟨Hs,δ,r,S,En,e,K⟩=>by
 cases e
 exact K [] Hs H (.refl S) rfl
theorem ae (ha:DE X e fa) (hr:DA X es fr) (hs:starEach (e::es) X.env=(false,eval e X.env)::starEach es X.env:=by exact bP rfl):DA X (e::es) (aa fa fr):=
 .mk <| (ce ha.go hr.go hs).weak fun σ H Q ⟨Hs,δ,r,S,En,e,K⟩=>by
  unfold aa at e
  cases ea:fa δ with
  | none=>rw [ea] at e;cases e
  | some ra=>
   cases eb:fr δ with
   | none=>rw [ea,eb] at e;cases e
   | some rb=>
    rw [ea,eb] at e
    cases e
    refine ⟨Hs,δ,ra,S,En,ea,fun x Hs1 H1 W1 R1=>⟨Hs1,δ,rb,W1.sub,En.mono W1,eb,fun vs Hs2 H2 W2 R2=>?_⟩⟩
    exact K (x::vs) Hs2 H2 (W1.trans W2) ⟨x,vs,rfl,R1.mono W2,R2.older W1.keep⟩
end
def R.isBw:R→Bool
 | .bw _=>true
 | _=>false
theorem dM.freeze {H0 H:Hp}:∀ {rs:List R} {vs:List V} {Hs:Hp},aN Hs H→dM H0 Hs H rs vs→∃ Hs1,aE Hs1 (rs.map R.view) vs∧aN Hs1 H∧aN Hs Hs1∧
  ((∀ r∈rs,r.isBw=false)→∀ a o,Hs1 a=some o→Hs a=some o∨H0 a=none):=by
 have one:∀ {r:R} {v:V} {Hs:Hp},aN Hs H→View Hs H r.view v→(r.isBw=false→(∃ d,r=.sh d∧Rep Hs d v)∨∃ a,v=.ref a∧H0 a=none)→
   ∃ Hs1,Rep Hs1 r.view v∧aN Hs1 H∧aN Hs Hs1∧(r.isBw=false→∀ a o,Hs1 a=some o→Hs a=some o∨H0 a=none):=by
  intro r v Hs S vw new
  rcases vw with h | ⟨ds,a,vs,e1,e2,h1,h2⟩
  ·
   exact ⟨Hs,h,S,.refl _,fun _ _ _ e=>.inl e⟩
  ·
   have sub:aN Hs (L2.upd Hs a (.lst vs)):=fun b o q=>by
    by_cases hb:b=a
    ·
     subst hb;rw [S _ _ q] at h1;cases h1;exact aF
    ·
     rw [aH hb];exact q
   refine ⟨L2.upd Hs a (.lst vs),?_,fun b o q=>?_,sub,fun hb b o q=>?_⟩
   ·
    rw [e1];unfold Rep;exact ⟨a,vs,e2,aF,aE.mono sub ds h2⟩
   ·
    by_cases hb:b=a
    ·
     subst hb;rw [aF] at q;cases q;exact h1
    ·
     rw [aH hb] at q;exact S _ _ q
   ·
    by_cases hba:b=a
    ·
     subst hba
     rcases new hb with ⟨d,ed,hd⟩ | ⟨a',ea,na⟩
     ·
      subst ed
      have e1:d=.lst ds:=e1
      subst e1
      unfold Rep at hd
      obtain ⟨a',vs',e3,h3,_⟩:=hd
      rw [e2] at e3;cases e3
      rw [S _ _ h3] at h1;cases h1
      rw [aF] at q;cases q
      exact .inl h3
     ·
      rw [e2] at ea;cases ea;exact .inr na
    ·
     rw [aH hba] at q;exact .inl q
 intro rs
 induction rs with
 | nil=>intro vs Hs S h;exact ⟨Hs,by rw [show vs=[] from h];exact .nil,S,.refl _,fun _ _ _ e=>.inl e⟩
 | cons r rs ih=>
  intro vs Hs S h
  obtain ⟨v,t,rfl,h1,h2⟩:=h
  obtain ⟨Hs1,q1,q2,q3,q4⟩:=ih S h2
  have vw:View Hs1 H r.view v:=by
   rcases h1.view with z | ⟨ds,a,vs,e1,e2,z1,z2⟩
   ·
    exact .inl (Rep.mono q3 _ z)
   ·
    exact .inr ⟨ds,a,vs,e1,e2,z1,aE.mono q3 _ z2⟩
  obtain ⟨Hs2,p1,p2,p3,p4⟩:=one (r:=r) q2 vw fun hb=>by
   cases r with
   | sh d=>exact .inl ⟨d,rfl,Rep.mono q3 _ h1⟩
   | fr ds=>obtain ⟨a,vs,e,n,_⟩:=h1;exact .inr ⟨a,e,n⟩
   | bw ds=>cases hb
  refine ⟨Hs2,.cons p1 (aE.mono p3 _ q1),p2,q3.trans p3,fun hb a o e=>?_⟩
  rcases p4 (hb r List.mem_cons_self) a o e with z | z
  ·
   exact q4 (fun r' hr'=>hb r' (List.mem_cons_of_mem _ hr')) a o z
  ·
   exact .inr z
def de (rs:List R):Bool:=rs.all fun r=>!r.isBw
theorem iE {rs:List R} (h:de rs=true):∀ r∈rs,r.isBw=false:=fun r hr=>by
 have:=List.all_eq_true.mp h r hr
 simpa using this
def cA (fa:DSt→Option (List R)):FE:=fun δ=>(fa δ).bind fun rs=>if de rs=true∧rs.length≤big then some (.fr (rs.map R.view)) else none
def b6 (fa:DSt→Option (List R)):FE:=fun δ=>(fa δ).bind fun rs=>if de rs=true∧rs.length≤big then some (.sh (.tup (rs.map R.view))) else none
theorem dM.length {H0 Hs H:Hp}:∀ {rs:List R} {vs:List V},dM H0 Hs H rs vs→vs.length=rs.length
 | [],_,h=>by rw [show _=_ from h];rfl
 | r::rs,_,⟨v,t,e,h1,h2⟩=>by rw [e];simp [dM.length h2]
section
variable {X:Cx} {e:Expr} {es:List Expr} {fa:FE} {fr:DSt→Option (List R)} {pos:Pos}
theorem cj (h:DA X es fr):DE X (.List es pos) (cA fr):=.mk <| (pe_lst h.go).weak fun σ H Q ⟨Hs,δ,r,S,En,e,K⟩=>by
 unfold cA at e
 cases ea:fr δ with
 | none=>rw [ea] at e;cases e
 | some rs=>
  rw [ea] at e
  by_cases hc:de rs=true∧rs.length≤big
  ·
   replace e:(if de rs=true∧rs.length≤big then some (R.fr (rs.map R.view)) else none)=some r:=e
   rw [if_pos hc] at e
   cases e
   refine ⟨Hs,δ,rs,S,En,ea,fun vs Hs1 H1 W1 R1=>⟨?_,fun p hp=>?_⟩⟩
   ·
    rw [R1.length];exact Nat.le_of_lt (bZ hc.2)
   ·
    obtain ⟨Hs2,q1,q2,q3,q4⟩:=R1.freeze W1.sub
    have W2:Wd H Hs Hs2 H1:=⟨W1.keep,q2,W1.base.trans q3,fun a o e=>by
     rcases q4 (iE hc.1) a o e with z | z
     ·
      exact W1.new a o z
     ·
      exact .inr z⟩
    exact K _ Hs2 _ (W2.trans (.fresh q2 hp)) ⟨p,vs,rfl,W1.keep.free hp,q2.free hp,aF,q1⟩
  ·
   replace e:(if de rs=true∧rs.length≤big then some (R.fr (rs.map R.view)) else none)=some r:=e
   rw [if_neg hc] at e;cases e
theorem cH {x1} (h:DA X es fr):DE X (.Tuple es x1 pos) (b6 fr):=.mk <| (pe_tup h.go).weak fun σ H Q ⟨Hs,δ,r,S,En,e,K⟩=>by
 unfold b6 at e
 cases ea:fr δ with
 | none=>rw [ea] at e;cases e
 | some rs=>
  rw [ea] at e
  by_cases hc:de rs=true∧rs.length≤big
  ·
   replace e:(if de rs=true∧rs.length≤big then some (R.sh (.tup (rs.map R.view))) else none)=some r:=e
   rw [if_pos hc] at e
   cases e
   refine ⟨Hs,δ,rs,S,En,ea,fun vs Hs1 H1 W1 R1=>⟨?_,fun p hp=>?_⟩⟩
   ·
    rw [R1.length];exact Nat.le_of_lt (bZ hc.2)
   ·
    obtain ⟨Hs2,q1,q2,q3,q4⟩:=R1.freeze W1.sub
    have W2:Wd H Hs Hs2 H1:=⟨W1.keep,q2,W1.base.trans q3,fun a o e=>by
     rcases q4 (iE hc.1) a o e with z | z
     ·
      exact W1.new a o z
     ·
      exact .inr z⟩
    refine K _ (L2.upd Hs2 p (.tup vs)) _ (W2.trans (.lay q2 hp)) ?_
    show Rep _ (.tup _) _
    unfold Rep
    exact ⟨p,vs,rfl,aF,aE.mono (.new (q2.free hp)) _ q1⟩
  ·
   replace e:(if de rs=true∧rs.length≤big then some (R.sh (.tup (rs.map R.view))) else none)=some r:=e
   rw [if_neg hc] at e;cases e
end
def spD (n:Nat) (m:List D→Option D):Sp:=fun vs H Q _=>∃ Hs ds d,ds.length=n∧aN Hs H∧aE Hs ds vs∧m ds=some d∧∀ v Hs' H',Wd H Hs Hs' H'→Rep Hs' d v→Q v H'
theorem spD_len {n:Nat} {m:List D→Option D} {vs:List V} {H:Hp} {Q:VK} {E:XK} (h:spD n m vs H Q E):vs.length=n:=by
 obtain ⟨Hs,ds,d,e,_,r,_⟩:=h
 rw [r.length,e]
def D.flat:D→Bool
 | .non=>true
 | .bl _=>true
 | .int _=>true
 | .str _=>true
 | _=>false
theorem Rep.flat {H H':Hp} {d:D} {v:V} (f:d.flat=true) (h:Rep H d v):Rep H' d v:=by
 cases d with
 | lst _=>cases f
 | tup _=>cases f
 | obj _ _=>cases f
 | _=>unfold Rep at h ⊢;exact h
def iF (n:Nat) (m:List D→Option D) (rs:List R):Option R:=(m (rs.map R.view)).bind fun d=>if rs.length=n∧(de rs=true∨d.flat=true) then some (.sh d) else none
def mcallF (n:Nat) (m:List D→Option (List D)) (rs:List R):Option R:=(m (rs.map R.view)).bind fun d=>if rs.length=n∧de rs=true then some (.fr d) else none
theorem nT {n:Nat} {m:List D→Option D} {rs:List R} {r:R} {vs:List V} {H Hs Hs1 H1:Hp} {Q:VK} {E:XK} (W1:Wd H Hs Hs1 H1) (R1:dM H Hs1 H1 rs vs) (e:iF n m rs=some r)
  (K:∀ v Hs' H',Wd H Hs Hs' H'→dq H Hs' H' r v→Q v H'):spD n m vs H1 Q E:=by
 unfold iF at e
 cases em:m (rs.map R.view) with
 | none=>rw [em] at e;cases e
 | some d=>
  rw [em] at e
  replace e:(if rs.length=n∧(de rs=true∨d.flat=true) then some (R.sh d) else none)=some r:=e
  by_cases hc:rs.length=n∧(de rs=true∨d.flat=true)
  ·
   rw [if_pos hc] at e
   cases e
   obtain ⟨Hs2,q1,q2,q3,q4⟩:=R1.freeze W1.sub
   refine ⟨Hs2,_,d,by rw [List.length_map];exact hc.1,q2,q1,em,fun v Hs3 H3 W3 R3=>?_⟩
   rcases hc.2 with hb | hf
   ·
    have W2:Wd H Hs Hs2 H1:=⟨W1.keep,q2,W1.base.trans q3,fun a o e=>by
     rcases q4 (iE hb) a o e with z | z
     ·
      exact W1.new a o z
     ·
      exact .inr z⟩
    exact K v Hs3 H3 (W2.trans W3) R3
   ·
    exact K v Hs1 H3 ⟨W1.keep.trans W3.keep,W1.sub.trans W3.keep,W1.base,W1.new⟩ (Rep.flat hf R3)
  ·
   rw [if_neg hc] at e;cases e
def ao (n:Nat) (m:List D→Option D) (fa:DSt→Option (List R)):FE:=fun δ=>(fa δ).bind (iF n m)
def dcallF (n:Nat) (m:List D→Option (List D)) (fa:DSt→Option (List R)):FE:=fun δ=>(fa δ).bind (mcallF n m)
section
variable {X:Cx} {e o:Expr} {es:List Expr} {fa fo:FE} {fr:DSt→Option (List R)} {n:Nat} {m:List D→Option D} {mF:List D→Option (List D)} {E:XK}
theorem tD_call {σ:St} {H:Hp} {Q:VK} (h:tD (ao n m fr) σ H Q):tCall (spD n m) [] E (tDA fr) σ H Q:=by
 obtain ⟨Hs,δ,r,S,En,e,K⟩:=h
 unfold ao at e
 cases ea:fr δ with
 | none=>rw [ea] at e;cases e
 | some rs=>
  rw [ea] at e
  refine ⟨Hs,δ,rs,S,En,ea,fun vs Hs1 H1 W1 R1=>?_⟩
  show spD n m (vs++[]) H1 Q E
  rw [List.append_nil]
  exact nT W1 R1 e K
def cT (ok:Addr→Bool) (f:Str) (fo:FE):FE:=fun δ=>(fo δ).bind fun r=>match r.view with
 | .obj C fs=>if ok C=true then (fs.lookup f).map .sh else none
 | _=>none
theorem de_fld {ok:Addr→Bool} {f:Str} {pos:Pos} (ho:DE X o fo) (hk:∀ C,ok C=true→Cls X.K C∧NoAttr X.K C f) (hb:attributeBase o f X.env (eval o X.env)=eval o X.env:=by rfl):DE X (.Attribute o f pos) (cT ok f fo):=.mk <|
 (pe_fld ho.go hb).weak fun σ H Q ⟨Hs,δ,r,S,En,e,K⟩=>by
  unfold cT at e
  cases ea:fo δ with
  | none=>rw [ea] at e;cases e
  | some ra=>
   rw [ea] at e
   refine ⟨Hs,δ,ra,S,En,ea,fun x Hs1 H1 W1 R1=>?_⟩
   have vw:=R1.view
   replace e:(match ra.view with
    | .obj C fs=>if ok C=true then (fs.lookup f).map R.sh else none
    | _=>none)=some r:=e
   cases hv:ra.view with
   | obj C fs=>
    rw [hv] at e vw
    replace e:(if ok C=true then (fs.lookup f).map R.sh else none)=some r:=e
    by_cases hc:ok C=true
    ·
     rw [if_pos hc] at e
     cases el:fs.lookup f with
     | none=>rw [el] at e;cases e
     | some d=>
      rw [el] at e
      cases e
      obtain ⟨a,dx,fvs,e1,h1,h2⟩:=vw.obj W1.sub
      obtain ⟨v,l1,l2⟩:=h2.lookup el
      exact ⟨a,C,dx,fvs,v,e1,h1,(hk C hc).1,(hk C hc).2,l1,K v Hs1 H1 W1 l2⟩
    ·
     rw [if_neg hc] at e;cases e
   | _=>rw [hv] at e;cases e
def bQ (C:Addr) (name:Str) (n:Nat) (m:List D→Option D) (fo:FE) (fa:DSt→Option (List R)):FE:=fun δ=>(fo δ).bind fun r=>match r.view with
 | .obj C' fs=>if C'=C∧fs.lookup name=none then (fa δ).bind fun rs=>iF n m (r::rs) else none
 | _=>none
theorem tD_meth {C:Addr} {name:Str} {σ:St} {H:Hp} {Q:VK} (h:tD (bQ C name n m fo fr) σ H Q):tMeth C name (spD n m) [] E (tD fo) (tDA fr) σ H Q:=by
 obtain ⟨Hs,δ,r,S,En,e,K⟩:=h
 unfold bQ at e
 cases ea:fo δ with
 | none=>rw [ea] at e;cases e
 | some ra=>
  rw [ea] at e
  refine ⟨Hs,δ,ra,S,En,ea,fun x Hs1 H1 W1 R1=>?_⟩
  have vw:=R1.view
  replace e:(match ra.view with
   | .obj C' fs=>if C'=C∧fs.lookup name=none then (fr δ).bind fun rs=>iF n m (ra::rs) else none
   | _=>none)=some r:=e
  cases hv:ra.view with
  | obj C' fs=>
   rw [hv] at e vw
   replace e:(if C'=C∧fs.lookup name=none then (fr δ).bind fun rs=>iF n m (ra::rs) else none)=some r:=e
   by_cases hc:C'=C∧fs.lookup name=none
   ·
    rw [if_pos hc] at e
    obtain ⟨hC,hn⟩:=hc
    subst hC
    obtain ⟨a,dx,fvs,e1,h1,h2⟩:=vw.obj W1.sub
    refine ⟨a,dx,fvs,e1,h1,h2.none hn,?_⟩
    cases eb:fr δ with
    | none=>rw [eb] at e;cases e
    | some rs=>
     rw [eb] at e
     refine ⟨Hs1,δ,rs,W1.sub,En.mono W1,eb,fun vs Hs2 H2 W2 R2=>?_⟩
     show spD n m (x::(vs++[])) H2 Q E
     rw [List.append_nil]
     exact nT (rs:=ra::rs) (W1.trans W2) (show dM H Hs2 H2 (ra::rs) (x::vs) from ⟨x,vs,rfl,R1.mono W2,R2.older W1.keep⟩) e K
   ·
    rw [if_neg hc] at e;cases e
  | _=>rw [hv] at e;cases e
def aA (o:D→Option R) (fa:DSt→Option (List R)):FE:=fun δ=>(fa δ).bind fun rs=>match rs with
 | [r]=>o r.view
 | _=>none
def rC1 (o:D→Option R):List V→Hp→VK→Prop:=fun xs H Q=>∃ x,xs=[x]∧rD1 o x H Q
theorem nU {o:D→Option R} {σ:St} {H:Hp} {Q:VK} (h:tD (aA o fr) σ H Q):tCB (rC1 o) (tDA fr) σ H Q:=by
 obtain ⟨Hs,δ,r,S,En,e,K⟩:=h
 unfold aA at e
 cases ea:fr δ with
 | none=>rw [ea] at e;cases e
 | some rs=>
  rw [ea] at e
  refine ⟨Hs,δ,rs,S,En,ea,fun vs Hs1 H1 W1 R1=>?_⟩
  match rs,e,R1 with
  | [r1],e,⟨v,t,ev,q1,q2⟩=>
   have q2:t=[]:=q2
   subst q2
   exact ⟨v,ev,Hs1,r1.view,r,W1.sub,q1.view,e,fun u Hs2 H2 W2 R2=>K u Hs2 H2 (W1.trans W2) (R2.older W1.keep)⟩
def aY (o:D→D→Option R) (fa:DSt→Option (List R)):FE:=fun δ=>(fa δ).bind fun rs=>match rs with
 | [r,s]=>o r.view s.view
 | _=>none
def rC2 (o:D→D→Option R):List V→Hp→VK→Prop:=fun xs H Q=>∃ x y,xs=[x,y]∧rD o x y H Q
theorem tD_call2 {o:D→D→Option R} {σ:St} {H:Hp} {Q:VK} (h:tD (aY o fr) σ H Q):tCB (rC2 o) (tDA fr) σ H Q:=by
 obtain ⟨Hs,δ,r,S,En,e,K⟩:=h
 unfold aY at e
 cases ea:fr δ with
 | none=>rw [ea] at e;cases e
 | some rs=>
  rw [ea] at e
  refine ⟨Hs,δ,rs,S,En,ea,fun vs Hs1 H1 W1 R1=>?_⟩
  match rs,e,R1 with
  | [r1,r2],e,⟨v,t,ev,q1,⟨v2,t2,ev2,p1,p2⟩⟩=>
   have p2:t2=[]:=p2
   subst p2
   exact ⟨v,v2,by rw [ev,ev2],Hs1,r1.view,r2.view,r,W1.sub,q1.view,p1.view,e,fun u Hs2 H2 W2 R2=>K u Hs2 H2 (W1.trans W2) (R2.older W1.keep)⟩
end
end Ew
end
section
set_option Elab.async false
set_option linter.all false
set_option maxRecDepth 100000
namespace Ew
open PySem PySem.Spec L2
def Fp (H:Hp):E→V→Addr→Prop
 | .sh _,_,_=>False
 | .ow _,v,b=>v=.ref b
 | .ob a C _,_,b=>b=a∨∃ fvs,H a=some (.ins C b fvs)
 | .nw d,v,b=>∃ L,Own H d v L∧b∈L
 | .on _ d,v,b=>∃ L,Own H d v L∧b∈L
 | .scr _ _,_,_=>False
theorem fu.fp {Hs H:Hp} {e:E} {v:V} {b:Addr} (h:fu Hs H e v) (f:Fp H e v b):Hs b=none∧∃ o,H b=some o:=by
 cases e with
 | sh d=>cases f
 | ow ds=>
  obtain ⟨a,vs,e1,m,h1,h2⟩:=h
  rw [e1] at f;cases f
  exact ⟨m,_,h1⟩
 | ob a C fs=>
  obtain ⟨e1,dx,fvs,m,m2,h1,h3,h2⟩:=h
  rcases f with rfl | ⟨fvs',f⟩
  ·
   exact ⟨m,_,h1⟩
  ·
   rw [h1] at f;cases f
   exact ⟨m2,_,h3⟩
 | nw d=>
  obtain ⟨L,h1,h2⟩:=h
  obtain ⟨L',h3,hb⟩:=f
  rw [Own.uniq d h3 h1] at hb
  exact ⟨h2 b hb,Own.cell d h1 b hb⟩
 | on a d=>
  obtain ⟨_,L,h1,h2⟩:=h
  obtain ⟨L',h3,hb⟩:=f
  rw [Own.uniq d h3 h1] at hb
  exact ⟨h2 b hb,Own.cell d h1 b hb⟩
 | scr K ns=>cases f
theorem fu.agree {Hs H H':Hp} {e:E} {v:V} (h:fu Hs H e v) (k:∀ b,Fp H e v b→H' b=H b):fu Hs H' e v∧∀ b,Fp H' e v b→Fp H e v b:=by
 cases e with
 | sh d=>exact ⟨h,fun b f=>f⟩
 | ow ds=>
  obtain ⟨a,vs,e1,m,h1,h2⟩:=h
  exact ⟨⟨a,vs,e1,m,by rw [k a e1];exact h1,h2⟩,fun b f=>f⟩
 | ob a C fs=>
  obtain ⟨e1,dx,fvs,m,m2,h1,h3,h2⟩:=h
  have ka:=k a (.inl rfl)
  exact ⟨⟨e1,dx,fvs,m,m2,by rw [ka];exact h1,by rw [k dx (.inr ⟨fvs,h1⟩)];exact h3,h2⟩,fun b f=>by
   rcases f with f | ⟨fvs',f⟩
   ·
    exact .inl f
   ·
    rw [ka] at f;exact .inr ⟨fvs',f⟩⟩
 | nw d=>
  obtain ⟨L,h1,h2⟩:=h
  have h1':Own H' d v L:=h1.agree d fun b hb=>k b ⟨L,h1,hb⟩
  exact ⟨⟨L,h1',h2⟩,fun b ⟨L',f,hb⟩=>⟨L,h1,by rw [Own.uniq d f h1'] at hb;exact hb⟩⟩
 | on a d=>
  obtain ⟨e1,L,h1,h2⟩:=h
  have h1':Own H' d v L:=h1.agree d fun b hb=>k b ⟨L,h1,hb⟩
  exact ⟨⟨e1,L,h1',h2⟩,fun b ⟨L',f,hb⟩=>⟨L,h1,by rw [Own.uniq d f h1'] at hb;exact hb⟩⟩
 | scr K ns=>exact ⟨h,fun b f=>f⟩
theorem fu.grow {Hs H H':Hp} {e:E} {v:V} (s:aN H H') (h:fu Hs H e v):fu Hs H' e v∧∀ b,Fp H' e v b→Fp H e v b:=h.agree fun b f=>by
 obtain ⟨_,o,ho⟩:=h.fp f
 rw [ho,s _ _ ho]
theorem fu.frame {Hs Hs1 H:Hp} {e:E} {v:V} (s:aN Hs Hs1) (h:fu Hs H e v) (k:∀ b,Fp H e v b→Hs1 b=none):fu Hs1 H e v:=by
 cases e with
 | sh d=>exact Rep.mono s d h
 | ow ds=>
  obtain ⟨a,vs,e1,m,h1,h2⟩:=h
  exact ⟨a,vs,e1,k a e1,h1,aE.mono s _ h2⟩
 | ob a C fs=>
  obtain ⟨e1,dx,fvs,m,m2,h1,h3,h2⟩:=h
  exact ⟨e1,dx,fvs,k a (.inl rfl),k dx (.inr ⟨fvs,h1⟩),h1,h3,dO.mono s _ h2⟩
 | nw d=>
  obtain ⟨L,h1,h2⟩:=h
  exact ⟨L,h1,fun b hb=>k b ⟨L,h1,hb⟩⟩
 | on a d=>
  obtain ⟨e1,L,h1,h2⟩:=h
  exact ⟨e1,L,h1,fun b hb=>k b ⟨L,h1,hb⟩⟩
 | scr K ns=>
  obtain ⟨a,e,h1⟩:=h
  exact ⟨a,e,gm s h1⟩
structure StR (H0 Hs H:Hp) (δ:DSt) (σ:St):Prop where
 ent:eZ Hs H δ σ
 len:σ.length=δ.length
 new:∀ (i:Nat) (e:E) (v:V) (b:Addr),δ[i]?=some (some e)→σ[i]?=some (some v)→Fp H e v b→H0 b=none
 dis:∀ (i j:Nat) (e e':E) (v v':V) (b:Addr),i≠j→δ[i]?=some (some e)→δ[j]?=some (some e')→σ[i]?=some (some v)→σ[j]?=some (some v')→Fp H e v b→Fp H e' v' b→False
theorem StR.rep {H0 Hs H:Hp} {δ:DSt} {σ:St} (h:StR H0 Hs H δ σ) {i:Nat} {e:E} {v:V} (q:δ[i]?=some (some e)) (hv:σ[i]?=some (some v)):fu Hs H e v:=by
 obtain ⟨v',h1,h2⟩:=h.ent i e q
 rw [hv] at h1;cases h1
 exact h2
theorem StR.mono {H0 H Hs Hs' H':Hp} {δ:DSt} {σ:St} (w:Wd H Hs Hs' H') (h:StR H0 Hs H δ σ):StR H0 Hs' H' δ σ:=by
 have g:∀ (i:Nat) (e:E) (v:V) (b:Addr),δ[i]?=some (some e)→σ[i]?=some (some v)→Fp H' e v b→Fp H e v b:=fun i e v b q1 q2 f=>((h.rep q1 q2).grow w.keep).2 b f
 exact ⟨h.ent.mono w,h.len,fun i e v b q1 q2 f=>h.new i e v b q1 q2 (g i e v b q1 q2 f),fun i j e e' v v' b n q1 q2 q3 q4 f f'=>h.dis i j e e' v v' b n q1 q2 q3 q4 (g i e v b q1 q3 f) (g j e' v' b q2 q4 f')⟩
theorem get_set {α:Type} {l:List α} {i j:Nat} {x y:α} (h:(l.set i x)[j]?=some y):(j=i∧y=x∧i<l.length)∨(j≠i∧l[j]?=some y):=by
 by_cases hj:j=i
 ·
  subst hj
  have hl:j<l.length:=by
   have:=(List.getElem?_eq_some_iff.mp h).1
   simpa using this
  rw [List.getElem?_set_self hl] at h
  exact .inl ⟨rfl,(Option.some.inj h).symm,hl⟩
 ·
  rw [List.getElem?_set_ne (Ne.symm hj)] at h
  exact .inr ⟨hj,h⟩
theorem StR.upG {H0 Hs0 Hs H Hs' H':Hp} {δ:DSt} {σ:St} {i:Nat} {e e':E} {v v':V} (W:Wd H0 Hs0 Hs H) (S:StR H0 Hs H δ σ) (q:δ[i]?=some (some e)) (hv:σ[i]?=some (some v))
  (keep:∀ b o,¬Fp H e v b→H b=some o→H' b=some o) (sub:aN Hs' H') (base:aN Hs Hs') (new:∀ a o,Hs' a=some o→Hs a=some o∨H a=none)
  (r:fu Hs' H' e' v') (own:∀ b,Fp H' e' v' b→Fp H e v b∨H b=none) :
  Wd H0 Hs0 Hs' H'∧StR H0 Hs' H' (δ.set i (some e')) (σ.set i (some v')):=by
 have hi:i<δ.length:=(List.getElem?_eq_some_iff.mp q).1
 have ag:∀ (j:Nat) (en:E) (u:V),j≠i→δ[j]?=some (some en)→σ[j]?=some (some u)→fu Hs' H' en u∧∀ b,Fp H' en u b→Fp H en u b:=fun j en u hj q1 q2=>by
  have r0:=S.rep q1 q2
  obtain ⟨r1,f1⟩:=r0.agree (H':=H') fun b f=>by
   obtain ⟨_,o,ho⟩:=r0.fp f
   rw [ho]
   exact keep b o (fun z=>S.dis j i en e u v b hj q1 q q2 hv f z) ho
  refine ⟨r1.frame base fun b f=>?_,f1⟩
  obtain ⟨m,o,ho⟩:=r0.fp (f1 b f)
  cases z:Hs' b with
  | none=>rfl
  | some o'=>
   rcases new b o' z with z' | z'
   ·
    rw [m] at z';cases z'
   ·
    rw [ho] at z';cases z'
 refine ⟨⟨fun b o hb=>?_,sub,W.base.trans base,fun a o ha=>?_⟩,⟨fun j en hj=>?_,by simpa using S.len,fun j en u b hj hu f=>?_,fun j k e1 e2 u1 u2 b hjk h1 h2 g1 g2 f1 f2=>?_⟩⟩
 ·
  refine keep b o (fun z=>?_) (W.keep _ _ hb)
  rw [S.new i e v b q hv z] at hb;cases hb
 ·
  rcases new a o ha with z | z
  ·
   exact W.new a o z
  ·
   exact .inr (W.keep.free z)
 ·
  rcases get_set hj with ⟨rfl,e1,_⟩ | ⟨hne,q1⟩
  ·
   cases e1
   exact ⟨v',List.getElem?_set_self (by rw [S.len];exact hi),r⟩
  ·
   obtain ⟨u,hu,_⟩:=S.ent j en q1
   exact ⟨u,by rw [List.getElem?_set_ne (Ne.symm hne)];exact hu,(ag j en u hne q1 hu).1⟩
 ·
  rcases get_set hj with ⟨rfl,e1,_⟩ | ⟨hne,q1⟩
  ·
   cases e1
   rw [List.getElem?_set_self (by rw [S.len];exact hi)] at hu
   cases hu
   rcases own b f with z | z
   ·
    exact S.new _ e v b q hv z
   ·
    exact W.keep.free z
  ·
   rw [List.getElem?_set_ne (Ne.symm hne)] at hu
   exact S.new j en u b q1 hu ((ag j en u hne q1 hu).2 b f)
 ·
  have other:∀ (j:Nat) (en:E) (u:V),j≠i→δ[j]?=some (some en)→σ[j]?=some (some u)→Fp H' en u b→Fp H' e' v' b→False:=fun j en u hne q1 q2 f f'=>by
   have f0:=(ag j en u hne q1 q2).2 b f
   rcases own b f' with z | z
   ·
    exact S.dis j i en e u v b hne q1 q q2 hv f0 z
   ·
    obtain ⟨_,o,ho⟩:=(S.rep q1 q2).fp f0
    rw [ho] at z;cases z
  rcases get_set h1 with ⟨rfl,z1,_⟩ | ⟨hne,q1⟩
  ·
   rcases get_set h2 with ⟨rfl,z2,_⟩ | ⟨hne2,q2⟩
   ·
    exact hjk rfl
   ·
    cases z1
    rw [List.getElem?_set_self (by rw [S.len];exact hi)] at g1
    rw [List.getElem?_set_ne (Ne.symm hne2)] at g2
    cases g1
    exact other k e2 u2 hne2 q2 g2 f2 f1
  ·
   rw [List.getElem?_set_ne (Ne.symm hne)] at g1
   rcases get_set h2 with ⟨rfl,z2,_⟩ | ⟨hne2,q2⟩
   ·
    cases z2
    rw [List.getElem?_set_self (by rw [S.len];exact hi)] at g2
    cases g2
    exact other j e1 u1 hne q1 g1 f1 f2
   ·
    rw [List.getElem?_set_ne (Ne.symm hne2)] at g2
    exact S.dis j k e1 e2 u1 u2 b hjk q1 q2 g1 g2 ((ag j e1 u1 hne q1 g1).2 b f1) ((ag k e2 u2 hne2 q2 g2).2 b f2)
theorem StR.put {H0 Hs H Hs' H':Hp} {δ:DSt} {σ:St} {i:Nat} {e':E} {v':V} (k:aN H0 H) (S:StR H0 Hs H δ σ) (w:Wd H Hs Hs' H') (r:fu Hs' H' e' v') (own:∀ b,Fp H' e' v' b→H b=none) :
  StR H0 Hs' H' (δ.set i (some e')) (σ.set i (some v')):=by
 have S':=S.mono w
 have back:∀ (j:Nat) (en:E) (u:V) (b:Addr),δ[j]?=some (some en)→σ[j]?=some (some u)→Fp H' en u b→∃ o,H b=some o:=fun j en u b q1 q2 f=>((S.rep q1 q2).fp (((S.rep q1 q2).grow w.keep).2 b f)).2
 refine ⟨fun j en hj=>?_,by simpa using S.len,fun j en u b hj hu f=>?_,fun j k e1 e2 u1 u2 b hjk h1 h2 g1 g2 f1 f2=>?_⟩
 ·
  rcases get_set hj with ⟨rfl,e1,hl⟩ | ⟨hne,q1⟩
  ·
   cases e1
   exact ⟨v',List.getElem?_set_self (by rw [S.len];exact hl),r⟩
  ·
   obtain ⟨u,hu,hr⟩:=S'.ent j en q1
   exact ⟨u,by rw [List.getElem?_set_ne (Ne.symm hne)];exact hu,hr⟩
 ·
  rcases get_set hj with ⟨rfl,e1,hl⟩ | ⟨hne,q1⟩
  ·
   cases e1
   rw [List.getElem?_set_self (by rw [S.len];exact hl)] at hu
   cases hu
   exact k.free (own b f)
  ·
   rw [List.getElem?_set_ne (Ne.symm hne)] at hu
   exact S'.new j en u b q1 hu f
 ·
  have other:∀ (j:Nat) (en:E) (u:V),δ[j]?=some (some en)→σ[j]?=some (some u)→Fp H' en u b→Fp H' e' v' b→False:=fun j en u q1 q2 f f'=>by
   obtain ⟨o,ho⟩:=back j en u b q1 q2 f
   rw [own b f'] at ho;cases ho
  rcases get_set h1 with ⟨rfl,z1,hl⟩ | ⟨hne,q1⟩
  ·
   rcases get_set h2 with ⟨rfl,z2,_⟩ | ⟨hne2,q2⟩
   ·
    exact hjk rfl
   ·
    cases z1
    rw [List.getElem?_set_self (by rw [S.len];exact hl)] at g1
    rw [List.getElem?_set_ne (Ne.symm hne2)] at g2
    cases g1
    exact other k e2 u2 q2 g2 f2 f1
  ·
   rw [List.getElem?_set_ne (Ne.symm hne)] at g1
   rcases get_set h2 with ⟨rfl,z2,hl⟩ | ⟨hne2,q2⟩
   ·
    cases z2
    rw [List.getElem?_set_self (by rw [S.len];exact hl)] at g2
    cases g2
    exact other j e1 u1 q1 g1 f1 f2
   ·
    rw [List.getElem?_set_ne (Ne.symm hne2)] at g2
    exact S'.dis j k e1 e2 u1 u2 b hjk q1 q2 g1 g2 f1 f2
theorem set_same {α:Type} {l:List α} {i:Nat} {x:α} (h:l[i]?=some x):l.set i x=l:=by
 apply List.ext_getElem?
 intro j
 by_cases hj:i=j
 ·
  subst hj
  rw [List.getElem?_set_self (List.getElem?_eq_some_iff.mp h).1,h]
 ·
  rw [List.getElem?_set_ne hj]
inductive Res where
 | nx (δ:DSt)
 | rt (r:R)
 | bk (δ:DSt)
 | ct (δ:DSt)
 | rn (d:D)
def Post (H0 Hs0:Hp) (D:Ends):Res→Prop
 | .nx δ=>∀ σ Hs H,Wd H0 Hs0 Hs H→StR H0 Hs H δ σ→D.nx σ H
 | .rt r=>∀ v Hs H,Wd H0 Hs0 Hs H→dq H0 Hs H r v→D.rt v H
 | .bk δ=>∀ σ Hs H,Wd H0 Hs0 Hs H→StR H0 Hs H δ σ→D.bk σ H
 | .ct δ=>∀ σ Hs H,Wd H0 Hs0 Hs H→StR H0 Hs H δ σ→D.ct σ H
 | .rn d=>∀ v Hs H L,Wd H0 Hs0 Hs H→Own H d v L→(∀ a∈L,H0 a=none∧Hs a=none)→D.rt v H
abbrev FS:=DSt→Option Res
def tS (H0 Hs0:Hp) (F:FS):TS:=fun D σ H=>∃ Hs δ res,Wd H0 Hs0 Hs H∧StR H0 Hs H δ σ∧F δ=some res∧Post H0 Hs0 D res
structure DS (X:Cx) (st:Stmt) (F:FS):Prop where
 go:∀ H0 Hs0,PS X st (tS H0 Hs0 F)
structure DSs (X:Cx) (st:List Stmt) (F:FS):Prop where
 go:∀ H0 Hs0,PSs X st (tS H0 Hs0 F)
def Res.thn (G:FS):Res→Option Res
 | .nx δ=>G δ
 | .rt r=>some (.rt r)
 | .bk δ=>some (.bk δ)
 | .ct δ=>some (.ct δ)
 | .rn d=>some (.rn d)
def aD:FS:=fun δ=>some (.nx δ)
def ar (F G:FS):FS:=fun δ=>(F δ).bind (Res.thn G)
section
variable {X:Cx} {st:Stmt} {rest:List Stmt} {F G:FS} {e:Expr} {f:FE} {pos:Pos}
theorem dss_nil:DSs X [] aD:=.mk fun H0 Hs0=>pss_nil.weak fun D σ H ⟨Hs,δ,res,W,S,e,P⟩=>by
 cases e
 exact P σ Hs H W S
theorem ai (h1:DS X st F) (h2:DSs X rest G):DSs X (st::rest) (ar F G):=.mk fun H0 Hs0=>(pss_cons (h1.go H0 Hs0) (h2.go H0 Hs0)).weak fun D σ H ⟨Hs,δ,res,W,S,e,P⟩=>by
 unfold ar at e
 cases ef:F δ with
 | none=>rw [ef] at e;cases e
 | some r1=>
  rw [ef] at e
  refine ⟨Hs,δ,r1,W,S,ef,?_⟩
  cases r1 with
  | nx δ1=>exact fun σ1 Hs1 H1 W1 S1=>⟨Hs1,δ1,res,W1,S1,e,P⟩
  | rt r=>cases e;exact P
  | bk δ1=>cases e;exact P
  | ct δ1=>cases e;exact P
  | rn d=>cases e;exact P
theorem ak (h1:DS X st F):DSs X [st] F:=.mk fun H0 Hs0=>pss_one (h1.go H0 Hs0)
theorem gq:DS X st (fun _=>none):=.mk fun H0 Hs0 pins s σ H D I ⟨Hs,δ,res,W,S,e,P⟩=>by cases e
def sif (t:DSt→Option Bool) (F G:FS):FS:=fun δ=>(t δ).bind fun b=>if b=true then F δ else G δ
theorem ds_if {c:Expr} {a b:List Stmt} {t:DSt→Option Bool} (hc:DT X c t) (ha:DSs X a F) (hb:DSs X b G):DS X (.If c a b pos) (sif t F G):=.mk fun H0 Hs0=>(ps_if hc.go (ha.go H0 Hs0) (hb.go H0 Hs0)).weak fun D σ H ⟨Hs,δ,res,W,S,e,P⟩=>by
 unfold sif at e
 cases et:t δ with
 | none=>rw [et] at e;cases e
 | some k=>
  rw [et] at e
  refine ⟨Hs,δ,k,W.sub,S.ent,et,fun Hs1 H1 W1=>?_⟩
  cases k with
  | true=>rw [if_pos rfl];exact ⟨Hs1,δ,res,W.trans W1,S.mono W1,e,P⟩
  | false=>rw [if_neg Bool.false_ne_true];exact ⟨Hs1,δ,res,W.trans W1,S.mono W1,e,P⟩
def aL (f:FE):FS:=fun δ=>(f δ).bind fun r=>if r.isBw=true then none else some (.rt r)
theorem aB (h:DE X e f):DS X (.Return (some e) pos) (aL f):=.mk fun H0 Hs0=>(ps_ret h.go).weak fun D σ H ⟨Hs,δ,res,W,S,e,P⟩=>by
 unfold aL at e
 cases et:f δ with
 | none=>rw [et] at e;cases e
 | some r=>
  rw [et] at e
  by_cases hb:r.isBw=true
  ·
   rw [show (some r).bind _=(if r.isBw=true then none else some (Res.rt r)) from rfl,if_pos hb] at e;cases e
  ·
   rw [show (some r).bind _=(if r.isBw=true then none else some (Res.rt r)) from rfl,if_neg hb] at e
   cases e
   exact ⟨Hs,δ,r,W.sub,S.ent,et,fun v Hs1 H1 W1 R1=>P v Hs1 H1 (W.trans W1) (R1.older W.keep)⟩
def fw (i:Nat):FS:=fun δ=>match δ[i]? with
 | some (some (.ow ds))=>some (.rt (.fr ds))
 | some (some (.sh d))=>some (.rt (.sh d))
 | some (some (.nw d))=>some (.rn d)
 | _=>none
theorem gN {i:Nat} {x:Str} {p:Pos} (h:PE X (.Name x p) (jY i)):DS X (.Return (some (.Name x p)) pos) (fw i):=.mk fun H0 Hs0=>(ps_ret h).weak fun D σ H ⟨Hs,δ,res,W,S,e,P⟩=>by
 unfold fw at e
 cases q:δ[i]? with
 | none=>rw [q] at e;cases e
 | some o=>
  cases o with
  | none=>rw [q] at e;cases e
  | some en=>
   rw [q] at e
   obtain ⟨v,hv,hr⟩:=S.ent i en q
   refine ⟨v,hv,?_⟩
   cases en with
   | sh d=>cases e;exact P v Hs H W hr
   | ow ds=>
    cases e
    obtain ⟨a,vs,e1,m,h1,h2⟩:=hr
    subst e1
    exact P _ Hs H W ⟨a,vs,rfl,S.new i _ _ a q hv rfl,m,h1,h2⟩
   | ob a C fs=>cases e
   | nw d=>
    cases e
    obtain ⟨L,h1,h2⟩:=hr
    exact P _ Hs H L W h1 fun b hb=>⟨S.new i _ _ b q hv ⟨L,h1,hb⟩,h2 b hb⟩
   | on b d=>cases e
   | scr K ns=>cases e
def frz (i:Nat) (δ:DSt):DSt:=match δ[i]? with
 | some (some (.ow ds))=>δ.set i (some (.sh (.lst ds)))
 | some (some (.nw d))=>δ.set i (some (.sh d))
 | _=>δ
theorem Own.share {Hs H:Hp} {d:D} {v:V} {L:List Addr} (s:aN Hs H) (h:Own H d v L) (n:∀ a∈L,Hs a=none) :
  ∃ Hs1,Rep Hs1 d v∧aN Hs1 H∧aN Hs Hs1∧∀ a o,Hs1 a=some o→Hs a=some o∨a∈L:=by
 classical
 refine ⟨fun a=>if a∈L then H a else Hs a,h.rep d fun a ha=>by simp [ha],fun a o e=>?_,fun a o e=>?_,fun a o e=>?_⟩
 ·
  by_cases ha:a∈L
  ·
   simpa [ha] using e
  ·
   simp [ha] at e;exact s _ _ e
 ·
  by_cases ha:a∈L
  ·
   rw [n a ha] at e;cases e
  ·
   simp [ha];exact e
 ·
  by_cases ha:a∈L
  ·
   exact .inr ha
  ·
   simp [ha] at e;exact .inl e
theorem StR.frz1 {H0 Hs0 Hs Hs1 H:Hp} {δ:DSt} {σ:St} {i:Nat} {e:E} {v:V} {d:D} (W:Wd H0 Hs0 Hs H) (S:StR H0 Hs H δ σ) (q:δ[i]?=some (some e)) (hv:σ[i]?=some (some v))
  (r:Rep Hs1 d v) (sub:aN Hs1 H) (base:aN Hs Hs1) (new:∀ a o,Hs1 a=some o→Hs a=some o∨Fp H e v a):Wd H0 Hs0 Hs1 H∧StR H0 Hs1 H (δ.set i (some (.sh d))) σ:=by
 have hi:i<δ.length:=(List.getElem?_eq_some_iff.mp q).1
 have fr:∀ (j:Nat) (en:E) (u:V),j≠i→δ[j]?=some (some en)→σ[j]?=some (some u)→fu Hs1 H en u:=fun j en u hj q1 q2=>by
  have r0:=S.rep q1 q2
  refine r0.frame base fun b f=>?_
  obtain ⟨m,_⟩:=r0.fp f
  cases z:Hs1 b with
  | none=>rfl
  | some o=>
   rcases new b o z with z' | z'
   ·
    rw [m] at z';cases z'
   ·
    exact (S.dis j i en e u v b hj q1 q q2 hv f z').elim
 refine ⟨⟨W.keep,sub,W.base.trans base,fun a o ha=>?_⟩,⟨fun j en hj=>?_,by simpa using S.len,fun j en u b hj hu f=>?_,fun j k e1 e2 u1 u2 b hjk h1 h2 g1 g2 f1 f2=>?_⟩⟩
 ·
  rcases new a o ha with z | z
  ·
   exact W.new a o z
  ·
   exact .inr (S.new i e v a q hv z)
 ·
  rcases get_set hj with ⟨rfl,e1,_⟩ | ⟨hne,q1⟩
  ·
   cases e1
   exact ⟨v,hv,r⟩
  ·
   obtain ⟨u,hu,_⟩:=S.ent j en q1
   exact ⟨u,hu,fr j en u hne q1 hu⟩
 ·
  rcases get_set hj with ⟨rfl,e1,_⟩ | ⟨hne,q1⟩
  ·
   cases e1;cases f
  ·
   exact S.new j en u b q1 hu f
 ·
  rcases get_set h1 with ⟨rfl,z1,_⟩ | ⟨hne,q1⟩
  ·
   cases z1;cases f1
  ·
   rcases get_set h2 with ⟨rfl,z2,_⟩ | ⟨hne2,q2⟩
   ·
    cases z2;cases f2
   ·
    exact S.dis j k e1 e2 u1 u2 b hjk q1 q2 g1 g2 f1 f2
theorem StR.frz {H0 Hs0 Hs H:Hp} {δ:DSt} {σ:St} {i:Nat} (W:Wd H0 Hs0 Hs H) (S:StR H0 Hs H δ σ):∃ Hs1,Wd H0 Hs0 Hs1 H∧StR H0 Hs1 H (frz i δ) σ:=by
 unfold Ew.frz
 cases q:δ[i]? with
 | none=>exact ⟨Hs,W,S⟩
 | some o=>
  cases o with
  | none=>exact ⟨Hs,W,S⟩
  | some en=>
   cases en with
   | sh d=>exact ⟨Hs,W,S⟩
   | ob a C fs=>exact ⟨Hs,W,S⟩
   | on b d=>exact ⟨Hs,W,S⟩
   | scr K ns=>exact ⟨Hs,W,S⟩
   | nw d=>
    obtain ⟨v,hv,L,h1,h2⟩:=S.ent i _ q
    obtain ⟨Hs1,r,s1,s2,s3⟩:=h1.share W.sub h2
    exact ⟨Hs1,S.frz1 W q hv r s1 s2 fun a o e=>(s3 a o e).imp id fun z=>⟨L,h1,z⟩⟩
   | ow ds=>
    obtain ⟨v,hv,a,vs,e1,m,h1,h2⟩:=S.ent i _ q
    subst e1
    refine ⟨L2.upd Hs a (.lst vs),S.frz1 W q hv ?_ (fun b o e=>?_) (.new m) fun b o e=>?_⟩
    ·
     unfold Rep
     exact ⟨a,vs,rfl,aF,aE.mono (.new m) ds h2⟩
    ·
     by_cases hb:b=a
     ·
      subst hb;rw [aF] at e;cases e;exact h1
     ·
      rw [aH hb] at e;exact W.sub _ _ e
    ·
     by_cases hb:b=a
     ·
      subst hb;exact .inr rfl
     ·
      rw [aH hb] at e;exact .inl e
def dw (i:Nat) (F:FS):FS:=fun δ=>F (frz i δ)
theorem cI {i:Nat} (h:DS X st F):DS X st (dw i F):=.mk fun H0 Hs0=>(h.go H0 Hs0).weak fun D σ H ⟨Hs,δ,res,W,S,e,P⟩=>by
 obtain ⟨Hs1,W1,S1⟩:=S.frz (i:=i) W
 exact ⟨Hs1,_,res,W1,S1,e,P⟩
def R.ent:R→Option E
 | .sh d=>some (.sh d)
 | .fr ds=>some (.ow ds)
 | .bw _=>none
theorem StR.set {H0 Hs0 H Hs Hs' H':Hp} {δ:DSt} {σ:St} {i:Nat} {r:R} {v:V} {en:E} (W:Wd H0 Hs0 Hs H) (S:StR H0 Hs H δ σ) (w:Wd H Hs Hs' H') (h:dq H Hs' H' r v) (e:r.ent=some en):StR H0 Hs' H' (δ.set i (some en)) (σ.set i (some v)):=by
 refine S.put W.keep w ?_ fun b f=>?_
 ·
  cases r with
  | sh d=>cases e;exact h
  | fr ds=>cases e;obtain ⟨a,vs,e1,_,m,h1,h2⟩:=h;exact ⟨a,vs,e1,m,h1,h2⟩
  | bw ds=>cases e
 ·
  cases r with
  | sh d=>cases e;cases f
  | fr ds=>cases e;obtain ⟨a,vs,e1,n,_⟩:=h;rw [e1] at f;cases f;exact n
  | bw ds=>cases e
def sset (i:Nat) (f:FE):FS:=fun δ=>(f δ).bind fun r=>r.ent.bind fun en=>some (.nx (δ.set i (some en)))
theorem ts_set {H0 Hs0:Hp} {i:Nat} {D:Ends} {σ:St} {H:Hp} (h:tS H0 Hs0 (sset i f) D σ H):tAsg (tD f) (lN i) D σ H:=by
 obtain ⟨Hs,δ,res,W,S,e,P⟩:=h
 unfold sset at e
 cases et:f δ with
 | none=>rw [et] at e;cases e
 | some r=>
  rw [et] at e
  replace e:(r.ent.bind fun en=>some (Res.nx (δ.set i (some en))))=some res:=e
  cases ee:r.ent with
  | none=>rw [ee] at e;cases e
  | some en=>
   rw [ee] at e
   cases e
   exact ⟨Hs,δ,r,W.sub,S.ent,et,fun v Hs1 H1 W1 R1=>P _ Hs1 H1 (W.trans W1) (S.set W W1 R1 ee)⟩
theorem ds_set {i:Nat} {x:Str} {pos':Pos} (hN:X.N.Nodup) (hi:X.N[i]?=some x) (hx:Loc X.env.scope x) (he:DE X e f) (hs:swapsWith e (some (.Name x pos')) pos.line X.env=pure false:=by rfl)
 (hf:X.fn x=true∨X.env.scope.names.lookup x=some .local:=by first | exact .inl rfl | exact .inr rfl | assumption):DS X (.Assign [.Name x pos'] e pos) (sset i f):=.mk fun H0 Hs0=>(ps_set hN hi hx he.go hs hf).weak fun _ _ _=>ts_set
end
end Ew
end
section
set_option Elab.async false
set_option linter.all false
set_option maxRecDepth 100000
namespace L2
open PySem PySem.Spec
theorem PI.weak {X:Cx} {tg iter:Expr} {t t':TI} (h:PI X tg iter t) (w:∀ σ H R,t' σ H R→t σ H R):PI X tg iter t':=fun pins s σ H R I q=>h pins s σ H R I (w σ H R q)
theorem PG.weak {X:Cx} {tg:Expr} {t t':TG} (h:PG X tg t) (w:∀ v σ H Q,t' v σ H Q→t v σ H Q):PG X tg t':=fun pins s σ H v u Q I r q=>h pins s σ H v u Q I r (w v σ H Q q)
theorem PGs.weak {X:Cx} {ts:List Expr} {t t':TGs} (h:PGs X ts t) (w:∀ v σ H Q,t' v σ H Q→t v σ H Q):PGs X ts t':=fun pins s σ H v u Q I r q=>h pins s σ H v u Q I r (w v σ H Q q)
end L2
namespace Ew
open PySem PySem.Spec L2
structure iG (Hs:Hp) (ks:List Nat) (δ:DSt) (σ:St) (δ':DSt) (σ':St):Prop where
 lenS:σ'.length=σ.length
 lenD:δ'.length=δ.length
 out:∀ j,j∉ks→δ'[j]?=δ[j]?∧σ'[j]?=σ[j]?
 ins:∀ j,j∈ks→∃ d v,δ'[j]?=some (some (.sh d))∧σ'[j]?=some (some v)∧Rep Hs d v
theorem iG.refl {Hs:Hp} {δ:DSt} {σ:St}:iG Hs [] δ σ δ σ:=⟨rfl,rfl,fun _ _=>⟨rfl,rfl⟩,fun _ h=>by cases h⟩
theorem iG.trans {Hs:Hp} {ks js:List Nat} {δ δ1 δ2:DSt} {σ σ1 σ2:St} (a:iG Hs ks δ σ δ1 σ1) (b:iG Hs js δ1 σ1 δ2 σ2):iG Hs (ks++js) δ σ δ2 σ2:=
 ⟨b.lenS.trans a.lenS,b.lenD.trans a.lenD,fun j hj=>by
  have h1:j∉ks:=fun z=>hj (List.mem_append_left _ z)
  have h2:j∉js:=fun z=>hj (List.mem_append_right _ z)
  exact ⟨(b.out j h2).1.trans (a.out j h1).1,(b.out j h2).2.trans (a.out j h1).2⟩,fun j hj=>by
  by_cases h2:j∈js
  ·
   exact b.ins j h2
  ·
   have h1:j∈ks:=(List.mem_append.mp hj).elim id fun z=>absurd z h2
   obtain ⟨d,v,e1,e2,r⟩:=a.ins j h1
   exact ⟨d,v,(b.out j h2).1.trans e1,(b.out j h2).2.trans e2,r⟩⟩
theorem iG.ent {Hs H:Hp} {ks:List Nat} {δ δ':DSt} {σ σ':St} (r:iG Hs ks δ σ δ' σ') (h:eZ Hs H δ σ):eZ Hs H δ' σ':=fun i e q=>by
 by_cases hi:i∈ks
 ·
  obtain ⟨d,v,e1,e2,rr⟩:=r.ins i hi
  rw [q] at e1;cases e1
  exact ⟨v,e2,rr⟩
 ·
  rw [(r.out i hi).1] at q
  rw [(r.out i hi).2]
  exact h i e q
theorem iG.st {H0 Hs H:Hp} {ks:List Nat} {δ δ':DSt} {σ σ':St} (r:iG Hs ks δ σ δ' σ') (h:StR H0 Hs H δ σ):StR H0 Hs H δ' σ':=by
 have no:∀ i en,δ'[i]?=some (some en)→(∀ d,en≠.sh d)→i∉ks:=fun i en q n hi=>by
  obtain ⟨d,v,e1,_⟩:=r.ins i hi
  rw [q] at e1;cases e1
  exact n d rfl
 have fp:∀ i en v b,δ'[i]?=some (some en)→Fp H en v b→i∉ks:=fun i en v b q f=>no i en q fun d z=>by rw [z] at f;cases f
 refine ⟨r.ent h.ent,by rw [r.lenS,r.lenD];exact h.len,fun i e v b q1 q2 f=>?_,fun i j e e' v v' b hij q1 q2 q3 q4 f f'=>?_⟩
 ·
  have hi:=fp i e v b q1 f
  rw [(r.out i hi).1] at q1;rw [(r.out i hi).2] at q2
  exact h.new i e v b q1 q2 f
 ·
  have hi:=fp i e v b q1 f
  have hj:=fp j e' v' b q2 f'
  rw [(r.out i hi).1] at q1;rw [(r.out i hi).2] at q3
  rw [(r.out j hj).1] at q2;rw [(r.out j hj).2] at q4
  exact h.dis i j e e' v v' b hij q1 q2 q3 q4 f f'
abbrev GD:=D→DSt→Option DSt
abbrev GDs:=List D→DSt→Option DSt
def tG (ks:List Nat) (g:GD):TG:=fun v σ H Q=>∃ Hs δ d δ',aN Hs H∧σ.length=δ.length∧Rep Hs d v∧g d δ=some δ'∧∀ σ',iG Hs ks δ σ δ' σ'→Q σ' H
def tGs (ks:List Nat) (g:GDs):TGs:=fun vs σ H Q=>∃ Hs δ ds δ',aN Hs H∧σ.length=δ.length∧aE Hs ds vs∧g ds δ=some δ'∧∀ σ',iG Hs ks δ σ δ' σ'→Q σ' H
structure DG (X:Cx) (tg:Expr) (ks:List Nat) (g:GD):Prop where
 go:PG X tg (tG ks g)
structure DGs (X:Cx) (ts:List Expr) (ks:List Nat) (g:GDs):Prop where
 go:PGs X ts (tGs ks g)
def au (i:Nat):GD:=fun d δ=>if i<δ.length then some (δ.set i (some (.sh d))) else none
theorem iG.name {Hs:Hp} {i:Nat} {δ:DSt} {σ:St} {d:D} {v:V} (hl:σ.length=δ.length) (hi:i<δ.length) (r:Rep Hs d v):iG Hs [i] δ σ (δ.set i (some (.sh d))) (σ.set i (some v)):=
 ⟨by simp,by simp,fun j hj=>by
  have:i≠j:=fun z=>hj (by simp [z])
  exact ⟨List.getElem?_set_ne this,List.getElem?_set_ne this⟩,fun j hj=>by
  have e:j=i:=by simpa using hj
  subst e
  exact ⟨d,v,List.getElem?_set_self hi,List.getElem?_set_self (by rw [hl];exact hi),r⟩⟩
section
variable {X:Cx} {pos:Pos}
theorem dg_name {i:Nat} {x:Str} (h:PG X (.Name x pos) (lN i)):DG X (.Name x pos) [i] (au i):=.mk <| h.weak fun v σ H Q ⟨Hs,δ,d,δ',S,hl,r,e,K⟩=>by
 unfold au at e
 by_cases hi:i<δ.length
 ·
  rw [if_pos hi] at e
  cases e
  exact K _ (.name hl hi r)
 ·
  rw [if_neg hi] at e;cases e
def j4:GDs:=fun ds δ=>match ds with
 | []=>some δ
 | _=>none
def cf (g:GD) (gs:GDs):GDs:=fun ds δ=>match ds with
 | d::r=>(g d δ).bind fun δ1=>gs r δ1
 | []=>none
theorem dgs_nil:DGs X [] [] j4:=.mk <| pgs_nil.weak fun vs σ H Q ⟨Hs,δ,ds,δ',S,hl,r,e,K⟩=>by
 cases ds with
 | nil=>cases e;unfold aE at r;exact ⟨r,K σ .refl⟩
 | cons d ds=>cases e
theorem nV {e:Expr} {es:List Expr} {ks js:List Nat} {g:GD} {gs:GDs} (h1:DG X e ks g) (h2:DGs X es js gs)
  (hs:(assignEach (e::es) X.env).map (·.2)=assign e X.env::(assignEach es X.env).map (·.2):=by rfl):DGs X (e::es) (ks++js) (cf g gs):=.mk <|
 (pgs_cons h1.go h2.go hs).weak fun vs σ H Q ⟨Hs,δ,ds,δ',S,hl,r,e,K⟩=>by
  cases ds with
  | nil=>cases e
  | cons d ds=>
   unfold aE at r
   obtain ⟨v,t,rfl,r1,r2⟩:=r
   unfold cf at e
   cases eg:g d δ with
   | none=>simp only [eg] at e;cases e
   | some δ1=>
    simp only [eg] at e
    exact ⟨v,t,rfl,Hs,δ,d,δ1,S,hl,r1,eg,fun σ1 q1=>⟨Hs,δ1,ds,δ',S,by rw [q1.lenS,q1.lenD];exact hl,r2,e,fun σ2 q2=>K σ2 (q1.trans q2)⟩⟩
def jl (n:Nat) (gs:GDs):GD:=fun d δ=>match d with
 | .tup ds=>if ds.length=n then gs ds δ else none
 | _=>none
theorem dg_tup {es:List Expr} {k:Nat} {ks:List Nat} {gs:GDs} {n:Nat} (hc:X.calm=true) (h:DGs X es ks gs)
  (hn:(assignEach es X.env).length=n:=by rfl) (hst:(assignEach es X.env).findIdx? (·.1)=none:=by rfl):DG X (.Tuple es k pos) ks (jl n gs):=.mk <|
 (pg_tup hc h.go hn hst).weak fun v σ H Q ⟨Hs,δ,d,δ',S,hl,r,e,K⟩=>by
  cases d with
  | tup ds=>
   unfold Rep at r
   obtain ⟨a,vs,rfl,h1,h2⟩:=r
   unfold jl at e
   by_cases hd:ds.length=n
   ·
    simp only [if_pos hd] at e
    exact ⟨a,vs,rfl,.of (S _ _ h1),h2.length.trans hd,Hs,δ,ds,δ',S,hl,h2,e,K⟩
   ·
    simp only [if_neg hd] at e;cases e
  | _=>cases e
end
def Yields (J:It) (Hs1:Hp) (items:List D):Prop:=∀ i Hs H,aN Hs1 Hs→aN Hs H→
 (∀ d,items[i]?=some d→J.go i H∧∀ x H',J.yld i H x H'→∃ Hs',Wd H Hs Hs' H'∧Rep Hs' d x)∧(items.length≤i→J.stop i H)
def tI (fi:DSt→Option (List D)):TI:=fun σ H R=>∃ Hs δ items,aN Hs H∧eZ Hs H δ σ∧fi δ=some items∧∀ J Hs' H',Wd H Hs Hs' H'→Yields J Hs' items→R J H'
structure DI (X:Cx) (tg iter:Expr) (fi:DSt→Option (List D)):Prop where
 go:PI X tg iter (tI fi)
def aO (f:FE):DSt→Option (List D):=fun δ=>(f δ).bind fun r=>if r.isBw=true then none else match r.view with
 | .lst ds=>some ds
 | _=>none
def itup (f:FE):DSt→Option (List D):=fun δ=>(f δ).bind fun r=>match r with
 | .sh (.tup ds)=>some ds
 | _=>none
theorem nW {K:PySem.W.Frag} {Hs1:Hp} {a:Addr} {vs:List V} {ds:List D} (h:Hs1 a=some (.lst vs)) (r:aE Hs1 ds vs):Yields (Itl K a) Hs1 ds:=by
 intro i Hs H S1 S2
 have hH:=S2 _ _ (S1 _ _ h)
 refine ⟨fun d hd=>?_,fun hl=>⟨vs,.of hH,by rw [r.length];exact hl⟩⟩
 obtain ⟨v,hv,rv⟩:=r.get hd
 refine ⟨⟨vs,v,.of hH,hv⟩,fun x H' y=>?_⟩
 obtain ⟨rfl,y⟩:=y
 have:=y vs (.of hH)
 rw [hv] at this;cases this
 exact ⟨Hs,.refl S2,Rep.mono S1 _ rv⟩
theorem mT {Hs1:Hp} {lo:Int} {n:Nat}:Yields (Itr lo n) Hs1 ((List.range n).map fun k=>.int (lo+(k:Nat))):=by
 intro i Hs H S1 S2
 refine ⟨fun d hd=>?_,fun hl=>(show n≤i by simpa using hl)⟩
 have hi:i<n:=by
  have:=(List.getElem?_eq_some_iff.mp hd).1
  simpa using this
 rw [List.getElem?_map,List.getElem?_range hi] at hd
 cases hd
 refine ⟨hi,fun x H' y=>?_⟩
 obtain ⟨rfl,rfl⟩:=y
 exact ⟨Hs,.refl S2,by unfold Rep;rfl⟩
section
variable {X:Cx} {tg l:Expr} {f:FE}
theorem bf (hl:DE X l f):DI X tg l (aO f):=.mk <| (pi_list hl.go).weak fun σ H R ⟨Hs,δ,items,S,En,e,K⟩=>by
 unfold aO at e
 cases ef:f δ with
 | none=>rw [ef] at e;cases e
 | some r=>
  rw [ef] at e
  by_cases hb:r.isBw=true
  ·
   simp only [Option.bind,if_pos hb] at e;cases e
  ·
   simp only [Option.bind,if_neg hb] at e
   refine ⟨Hs,δ,r,S,En,ef,fun x Hs1 H1 W1 R1=>?_⟩
   obtain ⟨Hs2,q,W2⟩:=R1.share W1 (fun ds z=>hb (by rw [z];rfl))
   cases hv:r.view with
   | lst ds=>
    rw [hv] at e q
    cases e
    unfold Rep at q
    obtain ⟨a,vs,rfl,h1,h2⟩:=q
    exact ⟨a,rfl,⟨vs,.of (W2.sub _ _ h1)⟩,K _ Hs2 H1 W2 (nW h1 h2)⟩
   | _=>rw [hv] at e;cases e
def eS (fa:DSt→Option (List R)):DSt→Option (List D):=fun δ=>(fa δ).bind fun rs=>match rs with
 | [.sh (.int j)]=>if -(2 ^ 62)≤j∧j<2 ^ 62 then some ((List.range j.toNat).map fun k=>.int (0+(k:Nat))) else none
 | _=>none
theorem di_range1 {a:Expr} {fa:DSt→Option (List R)} {p pos:Pos} (hg:Gl X "range") (hm:X.mg "range" = none) (ha:DA X [a] fa) (hs:starEach [a] X.env=[(false,eval a X.env)]:=by rfl):DI X tg (.Call (.Name "range" p) [a] [] pos) (eS fa):=.mk <|
 (pi_range1 hg hm ha.go hs).weak fun σ H R ⟨Hs,δ,items,S,En,e,K⟩=>by
  unfold eS at e
  cases ef:fa δ with
  | none=>rw [ef] at e;cases e
  | some rs=>
   rw [ef] at e
   refine ⟨Hs,δ,rs,S,En,ef,fun vs Hs1 H1 W1 R1=>?_⟩
   match rs,e,R1 with
   | [.sh (.int j)],e,⟨v,t,ev,q1,q2⟩=>
    have q2:t=[]:=q2
    have q1:Rep Hs1 (.int j) v:=q1
    unfold Rep at q1
    by_cases hj:-(2 ^ 62)≤j∧j<2 ^ 62
    ·
     simp only [Option.bind,if_pos hj] at e
     cases e
     exact ⟨j,by rw [ev,q1,q2],hj.1,hj.2,K _ Hs1 H1 W1 mT⟩
    ·
     simp only [Option.bind,if_neg hj] at e;cases e
end
def Res.loop (k:DSt→Option Res):Res→Option Res
 | .nx δ=>k δ
 | .ct δ=>k δ
 | .bk δ=>some (.nx δ)
 | .rt r=>some (.rt r)
 | .rn d=>some (.rn d)
def bu (g:GD) (body:FS):List D→DSt→Option Res
 | [],δ=>some (.nx δ)
 | d::r,δ=>(g d δ).bind fun δ1=>(body δ1).bind (Res.loop (bu g body r))
def bV (fi:DSt→Option (List D)) (g:GD) (body:FS):FS:=fun δ=>(fi δ).bind fun items=>bu g body items δ
theorem Wd.via {H0 Hs0 Hs1 H1 Hs H:Hp} (a:Wd H0 Hs0 Hs1 H1) (b:Wd H0 Hs1 Hs H):Wd H0 Hs0 Hs H:=
 ⟨b.keep,b.sub,a.base.trans b.base,fun c o e=>by
  rcases b.new c o e with q | q
  ·
   exact a.new c o q
  ·
   exact .inr q⟩
def cU (c:DSt→Option Bool) (body:FS):Nat→DSt→Option Res
 | 0,_=>none
 | n+1,δ=>(c δ).bind fun b=>if b=true then (body δ).bind (Res.loop (cU c body n)) else some (.nx δ)
section
variable {X:Cx} {tg iter:Expr} {body:List Stmt} {fi:DSt→Option (List D)} {ks:List Nat} {g:GD} {F:FS} {pos:Pos}
theorem ds_for (hp:PassesOwn (model X.prog X.w) X.A X.env X.xe) (hc:X.calm=true) (hi:DI X tg iter fi) (hg:DG X tg ks g) (hb:DSs X body F)
  (hs:∀ x,foldedSetIterable iter X.env x=pure x:=by intro _;rfl):DS X (.For tg iter body [] pos) (bV fi g F):=.mk fun H0 Hs0=>by
 have hb':PSs X body (fun D σ H=>∃ Hs1,tS H0 Hs1 F D σ H):=fun pins s σ H D I ⟨Hs1,h⟩=>hb.go H0 Hs1 pins s σ H D I h
 refine (ps_for hp hc hi.go hg.go hb' hs).weak fun D σ H ⟨Hs,δ,res,W,S,e,P⟩=>?_
 unfold bV at e
 cases ei:fi δ with
 | none=>rw [ei] at e;cases e
 | some items=>
  rw [ei] at e
  refine ⟨Hs,δ,items,W.sub,S.ent,ei,fun J Hs1 H1 W1 Y=>?_⟩
  have W01:=W.trans W1
  refine ⟨fun i m σ H=>m=items.length-i∧i≤items.length∧∃ Hs δ,Wd H0 Hs1 Hs H∧StR H0 Hs H δ σ∧bu g F (items.drop i) δ=some res,
   ⟨items.length,by simp,Nat.zero_le _,Hs1,δ,⟨W01.keep,W1.sub,.refl _,fun _ _ e=>.inl e⟩,S.mono W1,by simpa using e⟩,?_⟩
  rintro i m σ1 H2 ⟨rfl,hi.go,Hs2,δ1,W2,S2,e2⟩
  by_cases hlt:i<items.length
  ·
   have hd:items[i]?=some items[i]:=by simp [hlt]
   obtain ⟨go,yl⟩:=(Y i Hs2 H2 W2.base W2.sub).1 _ hd
   refine .inr ⟨go,fun σ' H'=>i+1≤items.length∧∃ Hs δ,Wd H0 Hs1 Hs H'∧StR H0 Hs H' δ σ'∧bu g F (items.drop (i+1)) δ=some res,fun σ' H' ⟨a,b⟩=>⟨_,by omega,rfl,a,b⟩,fun x H3 y=>?_⟩
   obtain ⟨Hs3,W3,rx⟩:=yl x H3 y
   have S3:=S2.mono W3
   rw [List.drop_eq_getElem_cons hlt] at e2
   unfold bu at e2
   cases eg:g items[i] δ1 with
   | none=>rw [eg] at e2;cases e2
   | some δ2=>
    rw [eg] at e2
    refine ⟨Hs3,δ1,items[i],δ2,W3.sub,S3.len,rx,eg,fun σ4 sr=>?_⟩
    replace e2:((F δ2).bind (Res.loop (bu g F (items.drop (i+1)))))=some res:=e2
    cases eF:F δ2 with
    | none=>rw [eF] at e2;cases e2
    | some r2=>
     rw [eF] at e2
     refine ⟨Hs1,Hs3,δ2,r2,W2.trans W3,sr.st S3,eF,?_⟩
     cases r2 with
     | nx δ3=>exact fun σ5 Hs5 H5 W5 S5=>⟨hlt,Hs5,δ3,W5,S5,e2⟩
     | ct δ3=>exact fun σ5 Hs5 H5 W5 S5=>⟨hlt,Hs5,δ3,W5,S5,e2⟩
     | bk δ3=>cases e2;exact fun σ5 Hs5 H5 W5 S5=>P σ5 Hs5 H5 (W01.via W5) S5
     | rt r=>cases e2;exact fun v Hs5 H5 W5 R5=>P v Hs5 H5 (W01.via W5) R5
     | rn d=>cases e2;exact fun v Hs5 H5 L W5 R5=>P v Hs5 H5 L (W01.via W5) R5
  ·
   have hi':i=items.length:=by omega
   subst hi'
   rw [List.drop_length] at e2
   cases e2
   exact .inl ⟨(Y _ Hs2 H2 W2.base W2.sub).2 (Nat.le_refl _),P σ1 Hs2 H2 (W01.via W2) S2⟩
theorem ds_while {c:Expr} {t:DSt→Option Bool} (n:Nat) (hp:PassesOwn (model X.prog X.w) X.A X.env X.xe) (hc:DT X c t) (hb:DSs X body F):DS X (.While c body [] pos) (cU t F n):=.mk fun H0 Hs0=>
 (ps_while hp hc.go (hb.go H0 Hs0)).weak fun D σ H ⟨Hs,δ,res,W,S,e,P⟩=>by
  refine ⟨fun m σ H=>∃ Hs δ,Wd H0 Hs0 Hs H∧StR H0 Hs H δ σ∧cU t F m δ=some res,⟨n,Hs,δ,W,S,e⟩,?_⟩
  rintro m σ1 H1 ⟨Hs1,δ1,W1,S1,e1⟩
  cases m with
  | zero=>cases e1
  | succ m=>
   unfold cU at e1
   cases et:t δ1 with
   | none=>rw [et] at e1;cases e1
   | some k=>
    rw [et] at e1
    refine ⟨Hs1,δ1,k,W1.sub,S1.ent,et,fun Hs2 H2 W2=>?_⟩
    cases k with
    | false=>cases e1;rw [if_neg Bool.false_ne_true];exact P σ1 Hs2 H2 (W1.trans W2) (S1.mono W2)
    | true=>
     rw [if_pos rfl]
     replace e1:((F δ1).bind (Res.loop (cU t F m)))=some res:=e1
     cases eF:F δ1 with
     | none=>rw [eF] at e1;cases e1
     | some r2=>
      rw [eF] at e1
      refine ⟨fun σ' H'=>∃ Hs δ,Wd H0 Hs0 Hs H'∧StR H0 Hs H' δ σ'∧cU t F m δ=some res,fun σ' H' h=>⟨m,Nat.lt_succ_self m,h⟩,Hs2,δ1,r2,W1.trans W2,S1.mono W2,eF,?_⟩
      cases r2 with
      | nx δ3=>exact fun σ5 Hs5 H5 W5 S5=>⟨Hs5,δ3,W5,S5,e1⟩
      | ct δ3=>exact fun σ5 Hs5 H5 W5 S5=>⟨Hs5,δ3,W5,S5,e1⟩
      | bk δ3=>cases e1;exact fun σ5 Hs5 H5 W5 S5=>P σ5 Hs5 H5 W5 S5
      | rt r=>cases e1;exact fun v Hs5 H5 W5 R5=>P v Hs5 H5 W5 R5
      | rn d=>cases e1;exact fun v Hs5 H5 L W5 R5=>P v Hs5 H5 L W5 R5
end
def dIn (m:Nat) (ix:List Nat) (δ:DSt):DSt:=List.replicate m none++ix.map fun i=>(δ[i]?).join
def cC (g:GD) (c:DSt→Option Bool) (fe:FE) (δ:DSt):List D→Option (List D)
 | []=>some []
 | d::r=>(g d δ).bind fun δ1=>(c δ1).bind fun b=>if b=true then (fe δ1).bind fun r1=>if r1.isBw=true then none else (cC g c fe δ r).bind fun t=>some (r1.view::t) else cC g c fe δ r
def bD (fi:DSt→Option (List D)) (g:GD) (c:DSt→Option Bool) (fe:FE) (m:Nat) (ix:List Nat):FE:=fun δ=>(fi δ).bind fun items=>if items.length≤big then (cC g c fe (dIn m ix δ) items).map .fr else none
theorem entIn {Hs H:Hp} {δ:DSt} {σ:St} (m:Nat) (ix:List Nat) (h:eZ Hs H δ σ):eZ Hs H (dIn m ix δ) (fM m ix σ):=fun j e q=>by
 unfold dIn at q
 unfold fM
 by_cases hj:j<m
 ·
  rw [List.getElem?_append_left (by simpa using hj),List.getElem?_replicate] at q
  split at q <;> cases q
 ·
  obtain ⟨k,rfl⟩ : ∃ k,j=m+k:=⟨j-m,by omega⟩
  rw [List.getElem?_append_right (by simp),List.length_replicate,Nat.add_sub_cancel_left,List.getElem?_map] at q ⊢
  cases hi:ix[k]? with
  | none=>rw [hi] at q;cases q
  | some i=>
   rw [hi] at q
   have q':(δ[i]?).join=some e:=by simpa using q
   have q'':δ[i]?=some (some e):=by
    cases z:δ[i]? with
    | none=>rw [z] at q';cases q'
    | some y=>rw [z] at q';simp at q';rw [q']
   obtain ⟨v,hv,hr⟩:=h i e q''
   exact ⟨v,by simp [hv],hr⟩
theorem dIn_own {m:Nat} {ix:List Nat} {δ:DSt} {j:Nat} {e:E} (h:(dIn m ix δ)[j]?=some (some e)):m≤j:=by
 rcases Nat.lt_or_ge j m with hj | hj
 ·
  unfold dIn at h
  rw [List.getElem?_append_left (by simpa using hj),List.getElem?_replicate] at h
  split at h <;> cases h
 ·
  exact hj
theorem tD_comp {fi:DSt→Option (List D)} {ks:List Nat} {g:GD} {c:DSt→Option Bool} {fe:FE} {m:Nat} {ix:List Nat} (hk:∀ j∈ks,j<m) {σ:St} {H:Hp} {Q:VK} (h:tD (bD fi g c fe m ix) σ H Q) :
  tComp (tI fi) (tG ks g) (tDT c) (tD fe) m ix σ H Q:=by
 obtain ⟨Hs,δ,r,S,En,e,K⟩:=h
 unfold bD at e
 cases ei:fi δ with
 | none=>rw [ei] at e;cases e
 | some items=>
  rw [ei] at e
  replace e:(if items.length≤big then (cC g c fe (dIn m ix δ) items).map R.fr else none)=some r:=e
  by_cases hbig:items.length≤big
  ·
   rw [if_pos hbig] at e
   cases em:cC g c fe (dIn m ix δ) items with
   | none=>rw [em] at e;cases e
   | some out=>
    rw [em] at e
    cases e
    refine ⟨Hs,δ,items,S,En,ei,fun J Hs1 H1 W1 Y A hA=>?_⟩
    have En1:eZ Hs1 H1 (dIn m ix δ) (fM m ix σ):=entIn m ix (En.mono W1)
    have len1:(fM m ix σ).length=(dIn m ix δ).length:=by unfold fM dIn;simp
    have hA1:Hs1 A=none:=W1.sub.free hA
    refine ⟨fun i n σ' H'=>n=items.length-i∧i≤items.length∧σ'.length=(dIn m ix δ).length∧(∀ j,m≤j→σ'[j]?=(fM m ix σ)[j]?)∧
     ∃ Hs' ds vs rest,Wd H1 Hs1 Hs' H'∧Hs' A=none∧H' A=some (.lst vs)∧aE Hs' ds vs∧ds.length≤i∧cC g c fe (dIn m ix δ) (items.drop i)=some rest∧out=ds++rest,?_,?_⟩
    ·
     refine ⟨items.length,by simp,Nat.zero_le _,len1,fun _ _=>rfl,Hs1,[],[],out,⟨.new hA,W1.sub.trans (.new hA),.refl _,fun _ _ e=>.inl e⟩,hA1,aF,.nil,Nat.zero_le _,by simpa using em,by simp⟩
    ·
     rintro i n σ1 H2 ⟨rfl,hi,hl1,hσ1,Hs2,ds,vs,rest,W2,hA2,hv2,r2,hd2,e2,eo⟩
     by_cases hlt:i<items.length
     ·
      have hd:items[i]?=some items[i]:=by simp [hlt]
      obtain ⟨go,yl⟩:=(Y i Hs2 H2 W2.base W2.sub).1 _ hd
      refine .inr ⟨go,fun σ' H'=>i+1≤items.length∧σ'.length=(dIn m ix δ).length∧(∀ j,m≤j→σ'[j]?=(fM m ix σ)[j]?)∧
       ∃ Hs' ds vs rest,Wd H1 Hs1 Hs' H'∧Hs' A=none∧H' A=some (.lst vs)∧aE Hs' ds vs∧ds.length≤i+1∧cC g c fe (dIn m ix δ) (items.drop (i+1))=some rest∧out=ds++rest,
       fun σ' H' ⟨a,b,c',d'⟩=>⟨_,by omega,rfl,a,b,c',d'⟩,fun x H3 y=>?_⟩
      obtain ⟨Hs3,W3,rx⟩:=yl x H3 y
      have W13:=W2.trans W3
      have A3:=W3.stay hv2 hA2
      have v3:=W3.keep _ _ hv2
      have En3:eZ Hs3 H3 (dIn m ix δ) σ1:=fun j en q=>by
       obtain ⟨v,hv,hr⟩:=(En1.mono W13) j en q
       exact ⟨v,by rw [hσ1 j (dIn_own q)];exact hv,hr⟩
      rw [List.drop_eq_getElem_cons hlt] at e2
      unfold cC at e2
      cases eg:g items[i] (dIn m ix δ) with
      | none=>rw [eg] at e2;cases e2
      | some δ2=>
       rw [eg] at e2
       refine ⟨Hs3,_,items[i],δ2,W3.sub,hl1,rx,eg,fun σ4 sr=>?_⟩
       have hl4:σ4.length=(dIn m ix δ).length:=by rw [sr.lenS];exact hl1
       have hσ4:∀ j,m≤j→σ4[j]?=(fM m ix σ)[j]?:=fun j hj=>by
        rw [(sr.out j fun z=>Nat.not_lt.mpr hj (hk j z)).2];exact hσ1 j hj
       have En4:eZ Hs3 H3 δ2 σ4:=sr.ent En3
       replace e2:((c δ2).bind fun b=>if b=true then (fe δ2).bind fun r1=>if r1.isBw=true then none else (cC g c fe (dIn m ix δ) (items.drop (i+1))).bind fun t=>some (r1.view::t) else cC g c fe (dIn m ix δ) (items.drop (i+1)))=some rest:=e2
       cases ec:c δ2 with
       | none=>rw [ec] at e2;cases e2
       | some b=>
        rw [ec] at e2
        refine ⟨Hs3,δ2,b,W3.sub,En4,ec,fun Hs5 H5 W5=>?_⟩
        have W15:=W13.trans W5
        have A5:=W5.stay v3 A3
        have v5:=W5.keep _ _ v3
        cases b with
        | false=>
         simp only [Bool.false_eq_true,if_false]
         exact ⟨hlt,hl4,hσ4,Hs5,ds,vs,rest,W15,A5,v5,aE.mono (W3.base.trans W5.base) _ r2,by omega,e2,eo⟩
        | true=>
         simp only [if_true]
         replace e2:((fe δ2).bind fun r1=>if r1.isBw=true then none else (cC g c fe (dIn m ix δ) (items.drop (i+1))).bind fun t=>some (r1.view::t))=some rest:=e2
         cases ef:fe δ2 with
         | none=>rw [ef] at e2;cases e2
         | some r1=>
          rw [ef] at e2
          replace e2:(if r1.isBw=true then none else (cC g c fe (dIn m ix δ) (items.drop (i+1))).bind fun t=>some (r1.view::t))=some rest:=e2
          by_cases hb:r1.isBw=true
          ·
           rw [if_pos hb] at e2;cases e2
          ·
           rw [if_neg hb] at e2
           cases er:cC g c fe (dIn m ix δ) (items.drop (i+1)) with
           | none=>rw [er] at e2;cases e2
           | some t=>
            rw [er] at e2
            cases e2
            refine ⟨Hs5,δ2,r1,W5.sub,En4.mono W5,ef,fun v Hs6 H6 W6 R6=>?_⟩
            obtain ⟨Hs7,q7,W7⟩:=R6.share W6 (fun ds z=>hb (by rw [z];rfl))
            have A7:=W7.stay v5 A5
            have v7:=W7.keep _ _ v5
            have W17:=W15.trans W7
            have nA:H1 A=none:=hA
            refine ⟨vs,v7,?_,hlt,hl4,hσ4,Hs7,ds++[r1.view],vs++[v],t,⟨fun b o q=>?_,fun b o q=>?_,W17.base,W17.new⟩,A7,aF,?_,by simp;omega,rfl,by rw [eo];simp⟩
            ·
             rw [r2.length];exact Nat.lt_of_le_of_lt hd2 (Nat.lt_trans hlt (bZ hbig))
            ·
             rw [aH (aR q nA)];exact W17.keep _ _ q
            ·
             rw [aH (aR q A7)];exact W17.sub _ _ q
            ·
             exact aE.append (aE.mono (W3.base.trans (W5.base.trans W7.base)) _ r2) (.cons q7 .nil)
     ·
      have hi':i=items.length:=by omega
      subst hi'
      rw [List.drop_length] at e2
      cases e2
      refine .inl ⟨(Y _ Hs2 H2 W2.base W2.sub).2 (Nat.le_refl _),K _ Hs2 H2 (W1.trans W2) ⟨A,vs,rfl,W1.keep.free hA,hA2,hv2,?_⟩⟩
      rw [eo,List.append_nil]
      exact r2
  ·
   rw [if_neg hbig] at e;cases e
section
variable {X:Cx} {tg elt iter:Expr} {ifs:List Expr} {scope:Scope} {pos:Pos} {N:List Str} {m:Nat} {ix:List Nat} {ks:List Nat} {g:GD} {c:DSt→Option Bool} {fe:FE} {fi:DSt→Option (List D)}
structure DIfs (X:Cx) (ifs:List Expr) (c:DSt→Option Bool):Prop where
 go:PIfs X ifs (tDT c)
def cJ:DSt→Option Bool:=fun _=>some true
theorem ck:DIfs X [] cJ:=.mk <| fun pins s σ H Q I ⟨Hs,δ,b,S,En,e,K⟩=>by
 cases e
 exact pifs_nil pins s σ H Q I (K Hs H (.refl S))
theorem fx {e:Expr} (h:DT X e c):DIfs X [e] c:=.mk <| pifs_one h.go
theorem de_comp (hc:X.calm=true) (S:dn X N m ix scope) (hk:∀ j∈ks,j<m) (hi:DI X tg iter fi)
  (hin:∀ cl C s H fp,DG (bv X N scope cl C s H fp) tg ks g∧DIfs (bv X N scope cl C s H fp) ifs c∧DE (bv X N scope cl C s H fp) elt fe)
  (hs:∀ x,foldedSetIterable iter X.env x=pure x:=by intro _;rfl):DE X (.ListComp elt [⟨tg,iter,ifs,0⟩] scope pos) (bD fi g c fe m ix):=.mk <|
 (pe_comp hc S hi.go (fun cl C s H fp=>⟨(hin cl C s H fp).1.go,(hin cl C s H fp).2.1.go,(hin cl C s H fp).2.2.go⟩) hs).weak fun _ _ _=>tD_comp hk
theorem ds_comp {y:Str} {py spos:Pos} {iy:Nat} (hc:X.calm=true) (S:dn X N m ix scope) (hk:∀ j∈ks,j<m) (hi:DI X tg iter fi)
  (hin:∀ cl C s H fp,DG (bv X N scope cl C s H fp) tg ks g∧DIfs (bv X N scope cl C s H fp) ifs c∧DE (bv X N scope cl C s H fp) elt fe)
  (hN:X.N.Nodup) (hiy:X.N[iy]?=some y) (hy:Loc X.env.scope y)
  (hsw:swapsWith (.ListComp elt [⟨tg,iter,ifs,0⟩] scope pos) (some (.Name y py)) spos.line X.env=pure true:=by rfl)
  (hf:X.fn y=true∨X.env.scope.names.lookup y=some .local:=by first | exact .inl rfl | exact .inr rfl | assumption)
  (hs:∀ x,foldedSetIterable iter X.env x=pure x:=by intro _;rfl):DS X (.Assign [.Name y py] (.ListComp elt [⟨tg,iter,ifs,0⟩] scope pos) spos) (sset iy (bD fi g c fe m ix)):=.mk fun H0 Hs0=>
 (ps_comp hc S hi.go (fun cl C s H fp=>⟨(hin cl C s H fp).1.go,(hin cl C s H fp).2.1.go,(hin cl C s H fp).2.2.go⟩) hN hiy hy hsw hf hs).weak fun D σ H h=>tD_comp hk (ts_set h)
end
def run (k:Nat) (F:FS) (ds:List D):Option D:=match F (ds.map (fun d=>some (.sh d))++List.replicate (k-ds.length) none) with
 | some (.rt r)=>if r.isBw=true then none else some r.view
 | some (.nx _)=>some .non
 | some (.rn d)=>some d
 | _=>none
theorem nX {Hs H:Hp} {N:List Str} {ds:List D} {vs:List V} (r:aE Hs ds vs):StR H Hs H (ds.map (fun d=>some (E.sh d))++List.replicate (N.length-ds.length) none) (L2.start N vs):=by
 have get:∀ (i:Nat) (e:E),(ds.map (fun d=>some (E.sh d))++List.replicate (N.length-ds.length) none)[i]?=some (some e)→∃ d,ds[i]?=some d∧e=E.sh d:=fun i e h=>by
  by_cases hi:i<ds.length
  ·
   rw [List.getElem?_append_left (by simpa using hi),List.getElem?_map] at h
   cases q:ds[i]? with
   | none=>rw [q] at h;cases h
   | some d=>rw [q] at h;cases h;exact ⟨d,rfl,rfl⟩
  ·
   rw [List.getElem?_append_right (by simpa using hi),List.getElem?_replicate] at h
   split at h <;> cases h
 refine ⟨fun i e h=>?_,?_,fun i e v b h _ f=>?_,fun i j e e' v v' b _ h _ _ _ f=>?_⟩
 ·
  obtain ⟨d,hd,rfl⟩:=get i e h
  obtain ⟨v,hv,rv⟩:=r.get hd
  refine ⟨v,?_,rv⟩
  unfold L2.start
  have hi:i<vs.length:=(List.getElem?_eq_some_iff.mp hv).1
  rw [List.getElem?_append_left (by simpa using hi),List.getElem?_map,hv]
  rfl
 ·
  unfold L2.start
  simp [r.length]
 ·
  obtain ⟨d,_,z⟩:=get i _ h;rw [z] at f;cases f
 ·
  obtain ⟨d,_,z⟩:=get i _ h;rw [z] at f;cases f
section
variable {P:Program} {w:World} {K:PySem.W.Frag} {mg:Str→Option Value} {base:Heap}
theorem fn_D {x qual:Str} {st:Stmt} {f:Addr} {fd:FuncData} {N ps:List Str} {k:Nat} {F:FS} (F0:Fun K x qual st f fd) (S:dZ N ps (aw st))
  (h:∀ (cdv:Value) (A:Around) (outer:List Env) (s:Shared) (H:Hp) (E:XK),bC k (A.deeper (PyProof.Rows.envOfC qual (aw st) s.heap.objs.size f cdv))→DSs (jZ CX0 P w K mg base N qual (aw st) f cdv A outer s H E).nox (aS st) F) :
  dY P w K mg base CX0 (k+1) f fd ps (spD ps.length (run N.length F)):=by
 refine F0.ok S (fun vs H Q E hs=>spD_len hs) (fun cdv A outer s H vs Q E hr hs=>?_)
 obtain ⟨Hs,ds,d,hl,sub,r,em,post⟩:=hs
 refine ⟨_,(h cdv A outer s H E hr).go H Hs,?_⟩
 unfold run at em
 cases eF:F (ds.map (fun d=>some (.sh d))++List.replicate (N.length-ds.length) none) with
 | none=>rw [eF] at em;cases em
 | some res=>
  rw [eF] at em
  refine ⟨Hs,_,res,.refl sub,nX r,eF,?_⟩
  cases res with
  | nx δ=>
   cases em
   exact fun σ Hs1 H1 W1 _=>post .non Hs1 H1 W1 (by unfold Rep;rfl)
  | rt r1=>
   replace em:(if r1.isBw=true then none else some r1.view)=some d:=em
   by_cases hb:r1.isBw=true
   ·
    rw [if_pos hb] at em;cases em
   ·
    rw [if_neg hb] at em
    cases em
    intro v Hs1 H1 W1 R1
    obtain ⟨Hs2,q,W2⟩:=R1.share W1 (fun ds z=>hb (by rw [z];rfl))
    exact post v Hs2 H1 W2 q
  | bk δ=>cases em
  | ct δ=>cases em
  | rn d'=>
   cases em
   intro v Hs1 H1 L W1 O n
   obtain ⟨Hs2,q,s1,s2,s3⟩:=O.share W1.sub fun a ha=>(n a ha).2
   exact post v Hs2 H1 ⟨W1.keep,s1,W1.base.trans s2,fun a o e=>(s3 a o e).elim (W1.new a o) fun z=>.inr (n a z).1⟩ q
end
end Ew
end
section
set_option Elab.async false
set_option linter.all false
set_option maxRecDepth 100000
namespace Ew
open PySem PySem.Spec L2
mutual
def D.py:D→PyData
 | .non=>.none
 | .bl b=>.bool b
 | .int i=>.int i
 | .str x=>.str x
 | .lst xs=>.list (pys xs)
 | .tup xs=>.tuple (pys xs)
 | .obj _ _=>.none
def pys:List D→List PyData
 | []=>[]
 | x::xs=>D.py x::pys xs
end
mutual
def D.plain:D→Bool
 | .non=>true
 | .bl _=>true
 | .int _=>true
 | .str _=>true
 | .lst xs=>gr xs
 | .tup xs=>gr xs
 | .obj _ _=>false
def gr:List D→Bool
 | []=>true
 | x::xs=>D.plain x&&gr xs
end
section
variable {X:Cx} {pins:List (Addr×Obj)} {σ:St} {H Hs:Hp} {s:Shared}
mutual
theorem nY (I:L2.Inv X pins σ H s) (S:aN Hs H):∀ (d:D) {v:V} {u:Value},d.plain=true→Rep Hs d v→RelV v u→∃ as,Reads s.heap u d.py as
 | .non,v,u,_,h,r=>by unfold Rep at h;subst h;cases (show u=Value.none from r);unfold D.py;exact ⟨_,.none⟩
 | .bl b,v,u,_,h,r=>by unfold Rep at h;subst h;cases (show u=Value.bool b from r);unfold D.py;exact ⟨_,.bool b⟩
 | .int i,v,u,_,h,r=>by unfold Rep at h;subst h;obtain ⟨t,rfl⟩:=r;unfold D.py;exact ⟨_,.int i t⟩
 | .str x,v,u,_,h,r=>by unfold Rep at h;subst h;obtain ⟨t,rfl⟩:=r;unfold D.py;exact ⟨_,.str x t⟩
 | .lst ds,v,u,p,h,r=>by
  unfold Rep at h
  obtain ⟨a,vs,rfl,h1,h2⟩:=h
  cases (show u=Value.ref a from r)
  obtain ⟨z,its,n,rv,e⟩:=I.hok a _ (S _ _ h1)
  unfold D.plain at p
  obtain ⟨as,q⟩:=eT I S ds p h2 rv
  unfold D.py
  exact ⟨_,.list e rfl rfl (by simpa using q)⟩
 | .tup ds,v,u,p,h,r=>by
  unfold Rep at h
  obtain ⟨a,vs,rfl,h1,h2⟩:=h
  cases (show u=Value.ref a from r)
  obtain ⟨z,its,rv,o,e,c,n,hd⟩:=I.hok a _ (S _ _ h1)
  unfold D.plain at p
  obtain ⟨as,q⟩:=eT I S ds p h2 rv
  unfold D.py
  exact ⟨_,.tuple e c hd (by simpa using q)⟩
 | .obj _ _,v,u,p,h,r=>by unfold D.plain at p;cases p
theorem eT (I:L2.Inv X pins σ H s) (S:aN Hs H):∀ (ds:List D) {vs:List V} {us:List Value},gr ds=true→aE Hs ds vs→aQ vs us→∃ as,ReadsAll s.heap us (pys ds) as
 | [],vs,us,_,h,r=>by unfold aE at h;subst h;cases r;unfold pys;exact ⟨_,.nil⟩
 | d::ds,vs,us,p,h,r=>by
  unfold aE at h
  obtain ⟨v,t,rfl,h1,h2⟩:=h
  unfold gr at p
  rw [Bool.and_eq_true] at p
  cases r with
  | cons r1 r2=>
   obtain ⟨as,q1⟩:=nY I S d p.1 h1 r1
   obtain ⟨bs,q2⟩:=eT I S ds p.2 h2 r2
   unfold pys
   exact ⟨_,.cons q1 q2⟩
end
theorem bx (I:L2.Inv X pins σ H s) (S:aN Hs H) (d:D) {v:V} {u:Value} (p:d.plain=true) (h:View Hs H d v) (r:RelV v u):∃ as,Reads s.heap u d.py as:=by
 rcases h with h | ⟨ds,a,vs,rfl,rfl,h1,h2⟩
 ·
  exact nY I S d p h r
 ·
  cases (show u=Value.ref a from r)
  obtain ⟨z,its,n,rv,e⟩:=I.hok a _ h1
  unfold D.plain at p
  obtain ⟨as,q⟩:=eT I S ds p h2 rv
  unfold D.py
  exact ⟨_,.list e rfl rfl (by simpa using q)⟩
end
def okD (d:D):Bool:=d.plain&&(d.py.canLay0&&decide (d.py.depth≤16))
theorem bL {d:D} (h:okD d=true):d.plain=true∧d.py.canLay0=true∧d.py.depth≤16:=by
 unfold okD at h
 rw [Bool.and_eq_true,Bool.and_eq_true] at h
 exact ⟨h.1,h.2.1,of_decide_eq_true h.2.2⟩
theorem gO {d:D} (h:okD d=true):SeqAt.shaped d.py=true:=by
 obtain ⟨_,h1,h2⟩:=bL h
 unfold SeqAt.shaped
 rw [Bool.and_eq_true]
 exact ⟨h1,decide_eq_true (by omega)⟩
def eqP (a b:D):Bool:=PyData.eqv a.py b.py
def oEq (a b:D):Option R:=if okD a=true∧okD b=true then some (.sh (.bl (eqP a b))) else none
def oNe (a b:D):Option R:=if okD a=true∧okD b=true then some (.sh (.bl (!eqP a b))) else none
def oIn (x c:D):Option R:=match c with
 | .lst ys=>if okD x=true∧okD c=true then some (.sh (.bl (ys.any fun y=>eqP y x))) else none
 | .tup ys=>if okD x=true∧okD c=true then some (.sh (.bl (ys.any fun y=>eqP y x))) else none
 | _=>none
def oNotIn (x c:D):Option R:=match c with
 | .lst ys=>if okD x=true∧okD c=true then some (.sh (.bl (!ys.any fun y=>eqP y x))) else none
 | .tup ys=>if okD x=true∧okD c=true then some (.sh (.bl (!ys.any fun y=>eqP y x))) else none
 | _=>none
def aZ:D→D→Option R
 | .int i,.int j=>some (.sh (.int (i+j)))
 | .lst xs,.lst ys=>if xs.length+ys.length≤big then some (.fr (xs++ys)) else none
 | .str x,.str y=>if x.length+y.length≤big then some (.sh (.str (x++y))) else none
 | _,_=>none
def oSub:D→D→Option R
 | .int i,.int j=>some (.sh (.int (i-j)))
 | _,_=>none
def cb:D→D→Option R
 | .int i,.int j=>if (-(2 ^ 64)<i∧i<2 ^ 64)∨(-(2 ^ 64)<j∧j<2 ^ 64) then some (.sh (.int (i*j))) else none
 | .lst xs,.int k=>if k≤1000∧-1000≤k∧xs.length*k.toNat≤big then some (.fr (List.replicate k.toNat xs).flatten) else none
 | _,_=>none
def oMod:D→D→Option R
 | .int i,.int j=>if 0<j then some (.sh (.int (i % j))) else none
 | _,_=>none
def oDiv:D→D→Option R
 | .int i,.int j=>if 0<j∧j<1073741824 then some (.sh (.int (i / j))) else none
 | _,_=>none
def oLt:D→D→Option R
 | .int i,.int j=>some (.sh (.bl (decide (i<j))))
 | _,_=>none
def oLe:D→D→Option R
 | .int i,.int j=>some (.sh (.bl (decide (i≤j))))
 | _,_=>none
def oGt:D→D→Option R
 | .int i,.int j=>some (.sh (.bl (decide (j<i))))
 | _,_=>none
def oGe:D→D→Option R
 | .int i,.int j=>some (.sh (.bl (decide (j≤i))))
 | _,_=>none
def oIx:D→D→Option R
 | .lst xs,.int i=>(atI xs i).map .sh
 | .tup xs,.int i=>(atI xs i).map .sh
 | _,_=>none
def bJ:D→Option R
 | .lst xs=>some (.sh (.int xs.length))
 | .tup xs=>some (.sh (.int xs.length))
 | .str x=>if x.length≤big then some (.sh (.int x.length)) else none
 | _=>none
def iH:D→Option R
 | .lst xs=>some (.fr xs)
 | .tup xs=>some (.fr xs)
 | _=>none
def dh:D→D→Option R
 | .int i,.int j=>some (.sh (.int (if j<i then j else i)))
 | _,_=>none
def eG:D→D→Option R
 | .int i,.int j=>some (.sh (.int (if j>i then j else i)))
 | _,_=>none
theorem fP:∀ ds:List D,pys ds=ds.map D.py
 | []=>by unfold pys;rfl
 | d::ds=>by unfold pys;rw [fP ds];rfl
section
variable {X:Cx}
theorem op_oEq (hu:X.A.units+64<cLine):OpR X (compareOp .Eq) (rD oEq):=by
 intro pins s σ H x y v u Q I rx ry h
 obtain ⟨Hs,a,b,r,S,va,vb,e,K⟩:=h
 unfold oEq at e
 by_cases hc:okD a=true∧okD b=true
 ·
  rw [if_pos hc] at e
  cases e
  obtain ⟨as,ra⟩:=bx I S a (bL hc.1).1 va rx
  obtain ⟨bs,rb⟩:=bx I S b (bL hc.2).1 vb ry
  exact SeqAt.compareEq_shaped ra rb (gO hc.1) (gO hc.2) hu ⟨.bl _,H,I,rfl,K _ Hs H (.refl S) (shB _ _ _ _)⟩
 ·
  rw [if_neg hc] at e;cases e
theorem op_oNe (hu:X.A.units+64<cLine):OpR X (compareOp .NotEq) (rD oNe):=by
 intro pins s σ H x y v u Q I rx ry h
 obtain ⟨Hs,a,b,r,S,va,vb,e,K⟩:=h
 unfold oNe at e
 by_cases hc:okD a=true∧okD b=true
 ·
  rw [if_pos hc] at e
  cases e
  obtain ⟨as,ra⟩:=bx I S a (bL hc.1).1 va rx
  obtain ⟨bs,rb⟩:=bx I S b (bL hc.2).1 vb ry
  exact SeqAt.compareNe_shaped ra rb (gO hc.1) (gO hc.2) hu ⟨.bl _,H,I,rfl,K _ Hs H (.refl S) (shB _ _ _ _)⟩
 ·
  rw [if_neg hc] at e;cases e
theorem iI {ys:List D} (h:okD (.lst ys)=true):PyData.canLayAll0 (pys ys)=true∧PyData.depthAll (pys ys)≤16:=by
 obtain ⟨_,h1,h2⟩:=bL h
 unfold D.py at h1 h2
 unfold PyData.canLay0 at h1
 unfold PyData.depth at h2
 exact ⟨h1,by omega⟩
theorem kr {ys:List D} (h:okD (.tup ys)=true):PyData.canLayAll0 (pys ys)=true∧PyData.depthAll (pys ys)≤16:=by
 obtain ⟨_,h1,h2⟩:=bL h
 unfold D.py at h1 h2
 unfold PyData.canLay0 at h1
 unfold PyData.depth at h2
 exact ⟨h1,by omega⟩
theorem ku (x:D) (ys:List D):((pys ys).any fun y=>PyData.eqv y x.py)=ys.any fun y=>eqP y x:=by
 rw [fP,List.any_map];rfl
theorem op_oIn (hu:X.A.units+64<cLine):OpR X (compareOp .In) (rD oIn):=by
 intro pins s σ H x y v u Q I rx ry h
 obtain ⟨Hs,a,b,r,S,va,vb,e,K⟩:=h
 have room:∀ ys:List PyData,PyData.depthAll ys≤16→X.A.units+1+min (PyData.depthAll ys) a.py.depth<cLine:=fun ys hy=>by
  have:min (PyData.depthAll ys) a.py.depth≤PyData.depthAll ys:=Nat.min_le_left _ _
  omega
 cases b with
 | lst ys=>
  unfold oIn at e
  by_cases hc:okD a=true∧okD (.lst ys)=true
  ·
   simp only [if_pos hc] at e
   cases e
   obtain ⟨as,ra⟩:=bx I S a (bL hc.1).1 va rx
   obtain ⟨bs,rb⟩:=bx I S _ (bL hc.2).1 vb ry
   unfold D.py at rb
   refine SeqAt.in_list_reads rb ra (iI hc.2).1 (bL hc.1).2.1 (room _ (iI hc.2).2) ⟨.bl _,H,I,rfl,?_⟩
   rw [ku]
   exact K _ Hs H (.refl S) (shB _ _ _ _)
  ·
   simp only [if_neg hc] at e;cases e
 | tup ys=>
  unfold oIn at e
  by_cases hc:okD a=true∧okD (.tup ys)=true
  ·
   simp only [if_pos hc] at e
   cases e
   obtain ⟨as,ra⟩:=bx I S a (bL hc.1).1 va rx
   obtain ⟨bs,rb⟩:=bx I S _ (bL hc.2).1 vb ry
   unfold D.py at rb
   refine SeqAt.in_tuple_reads rb ra (kr hc.2).1 (bL hc.1).2.1 (room _ (kr hc.2).2) ⟨.bl _,H,I,rfl,?_⟩
   rw [ku]
   exact K _ Hs H (.refl S) (shB _ _ _ _)
  ·
   simp only [if_neg hc] at e;cases e
 | _=>cases e
theorem op_oNotIn (hu:X.A.units+64<cLine):OpR X (compareOp .NotIn) (rD oNotIn):=by
 intro pins s σ H x y v u Q I rx ry h
 obtain ⟨Hs,a,b,r,S,va,vb,e,K⟩:=h
 have room:∀ ys:List PyData,PyData.depthAll ys≤16→X.A.units+1+min (PyData.depthAll ys) a.py.depth<cLine:=fun ys hy=>by
  have:min (PyData.depthAll ys) a.py.depth≤PyData.depthAll ys:=Nat.min_le_left _ _
  omega
 cases b with
 | lst ys=>
  unfold oNotIn at e
  by_cases hc:okD a=true∧okD (.lst ys)=true
  ·
   simp only [if_pos hc] at e
   cases e
   obtain ⟨as,ra⟩:=bx I S a (bL hc.1).1 va rx
   obtain ⟨bs,rb⟩:=bx I S _ (bL hc.2).1 vb ry
   unfold D.py at rb
   refine SeqAt.notIn_list_reads rb ra (iI hc.2).1 (bL hc.1).2.1 (room _ (iI hc.2).2) ⟨.bl _,H,I,rfl,?_⟩
   rw [ku]
   exact K _ Hs H (.refl S) (shB _ _ _ _)
  ·
   simp only [if_neg hc] at e;cases e
 | tup ys=>
  unfold oNotIn at e
  by_cases hc:okD a=true∧okD (.tup ys)=true
  ·
   simp only [if_pos hc] at e
   cases e
   obtain ⟨as,ra⟩:=bx I S a (bL hc.1).1 va rx
   obtain ⟨bs,rb⟩:=bx I S _ (bL hc.2).1 vb ry
   unfold D.py at rb
   refine SeqAt.notIn_tuple_reads rb ra (kr hc.2).1 (bL hc.1).2.1 (room _ (kr hc.2).2) ⟨.bl _,H,I,rfl,?_⟩
   rw [ku]
   exact K _ Hs H (.refl S) (shB _ _ _ _)
  ·
   simp only [if_neg hc] at e;cases e
 | _=>cases e
theorem bc:OpR X (binaryOp .Add) (rD aZ):=by
 intro pins s σ H x y v u Q I rx ry h
 obtain ⟨Hs,a,b,r,S,va,vb,e,K⟩:=h
 match a,b,e,va,vb with
 | .int i,.int j,e,va,vb=>
  cases e
  exact op_add pins s σ H x y v u Q I rx ry ⟨i,j,va.int,vb.int,K _ Hs H (.refl S) (shI _ _ _ _)⟩
 | .lst xs,.lst ys,e,va,vb=>
  by_cases hc:xs.length+ys.length≤big
  ·
   simp only [aZ,if_pos hc] at e
   cases e
   obtain ⟨a,vs,ea,h1,h2⟩:=va.lst S
   obtain ⟨b,us,eb,h3,h4⟩:=vb.lst S
   refine op_cat pins s σ H x y v u Q I rx ry ⟨a,b,vs,us,ea,eb,h1,h3,?_,fun p hp=>?_⟩
   ·
    rw [h2.length,h4.length];exact Nat.le_of_lt (bZ hc)
   ·
    exact K (.ref p) Hs _ (.fresh S hp) ⟨p,_,rfl,hp,S.free hp,aF,h2.append h4⟩
  ·
   simp only [aZ,if_neg hc] at e;cases e
 | .str i,.str j,e,va,vb=>
  by_cases hc:i.length+j.length≤big
  ·
   simp only [aZ,if_pos hc] at e
   cases e
   exact o7 pins s σ H x y v u Q I rx ry ⟨i,j,va.str,vb.str,Nat.le_of_lt (bZ hc),K _ Hs H (.refl S) (shS _ _ _ _)⟩
  ·
   simp only [aZ,if_neg hc] at e;cases e
theorem mU:OpR X (binaryOp .Sub) (rD oSub):=by
 intro pins s σ H x y v u Q I rx ry h
 obtain ⟨Hs,a,b,r,S,va,vb,e,K⟩:=h
 match a,b,e,va,vb with
 | .int i,.int j,e,va,vb=>
  cases e
  exact op_sub pins s σ H x y v u Q I rx ry ⟨i,j,va.int,vb.int,K _ Hs H (.refl S) (shI _ _ _ _)⟩
theorem fQ:OpR X (binaryOp .Mod) (rD oMod):=by
 intro pins s σ H x y v u Q I rx ry h
 obtain ⟨Hs,a,b,r,S,va,vb,e,K⟩:=h
 match a,b,e,va,vb with
 | .int i,.int j,e,va,vb=>
  by_cases hc:0<j
  ·
   simp only [oMod,if_pos hc] at e
   cases e
   exact op_mod pins s σ H x y v u Q I rx ry ⟨i,j,va.int,vb.int,hc,K _ Hs H (.refl S) (shI _ _ _ _)⟩
  ·
   simp only [oMod,if_neg hc] at e;cases e
theorem op_oDiv:OpR X (binaryOp .FloorDiv) (rD oDiv):=by
 intro pins s σ H x y v u Q I rx ry h
 obtain ⟨Hs,a,b,r,S,va,vb,e,K⟩:=h
 match a,b,e,va,vb with
 | .int i,.int j,e,va,vb=>
  by_cases hc:0<j∧j<1073741824
  ·
   simp only [oDiv,if_pos hc] at e
   cases e
   exact op_fdiv pins s σ H x y v u Q I rx ry ⟨i,j,va.int,vb.int,hc,K _ Hs H (.refl S) (shI _ _ _ _)⟩
  ·
   simp only [oDiv,if_neg hc] at e;cases e
theorem d6:OpR X (binaryOp .Mult) (rD cb):=by
 intro pins s σ H x y v u Q I rx ry h
 obtain ⟨Hs,a,b,r,S,va,vb,e,K⟩:=h
 match a,b,e,va,vb with
 | .int i,.int j,e,va,vb=>
  by_cases hc:(-(2 ^ 64)<i∧i<2 ^ 64)∨(-(2 ^ 64)<j∧j<2 ^ 64)
  ·
   simp only [cb,if_pos hc] at e
   cases e
   exact op_mul pins s σ H x y v u Q I rx ry ⟨i,j,va.int,vb.int,hc,K _ Hs H (.refl S) (shI _ _ _ _)⟩
  ·
   simp only [cb,if_neg hc] at e;cases e
 | .lst xs,.int k,e,va,vb=>
  by_cases hc:k≤1000∧-1000≤k∧xs.length*k.toNat≤big
  ·
   simp only [cb,if_pos hc] at e
   cases e
   obtain ⟨a,vs,ea,h1,h2⟩:=va.lst S
   have rr:∀ n:Nat,aE Hs (List.replicate n xs).flatten (List.replicate n vs).flatten:=fun n=>by
    induction n with
    | zero=>exact .nil
    | succ n ih=>rw [List.replicate_succ,List.replicate_succ,List.flatten_cons,List.flatten_cons];exact h2.append ih
   refine op_rep pins s σ H x y v u Q I rx ry ⟨a,k,vs,ea,vb.int,h1,by omega,by omega,?_,fun p hp=>?_⟩
   ·
    rw [h2.length];exact Nat.le_of_lt (bZ hc.2.2)
   ·
    exact K (.ref p) Hs _ (.fresh S hp) ⟨p,_,rfl,hp,S.free hp,aF,rr _⟩
  ·
   simp only [cb,if_neg hc] at e;cases e
theorem dz:OpR X (compareOp .Lt) (rD oLt):=by
 intro pins s σ H x y v u Q I rx ry h
 obtain ⟨Hs,a,b,r,S,va,vb,e,K⟩:=h
 match a,b,e,va,vb with
 | .int i,.int j,e,va,vb=>cases e;exact op_lt pins s σ H x y v u Q I rx ry ⟨i,j,va.int,vb.int,K _ Hs H (.refl S) (shB _ _ _ _)⟩
theorem ig:OpR X (compareOp .LtE) (rD oLe):=by
 intro pins s σ H x y v u Q I rx ry h
 obtain ⟨Hs,a,b,r,S,va,vb,e,K⟩:=h
 match a,b,e,va,vb with
 | .int i,.int j,e,va,vb=>cases e;exact op_le pins s σ H x y v u Q I rx ry ⟨i,j,va.int,vb.int,K _ Hs H (.refl S) (shB _ _ _ _)⟩
theorem mV:OpR X (compareOp .Gt) (rD oGt):=by
 intro pins s σ H x y v u Q I rx ry h
 obtain ⟨Hs,a,b,r,S,va,vb,e,K⟩:=h
 match a,b,e,va,vb with
 | .int i,.int j,e,va,vb=>cases e;exact op_gt pins s σ H x y v u Q I rx ry ⟨i,j,va.int,vb.int,K _ Hs H (.refl S) (shB _ _ _ _)⟩
theorem op_oGe:OpR X (compareOp .GtE) (rD oGe):=by
 intro pins s σ H x y v u Q I rx ry h
 obtain ⟨Hs,a,b,r,S,va,vb,e,K⟩:=h
 match a,b,e,va,vb with
 | .int i,.int j,e,va,vb=>cases e;exact op_ge pins s σ H x y v u Q I rx ry ⟨i,j,va.int,vb.int,K _ Hs H (.refl S) (shB _ _ _ _)⟩
theorem nZ {H:Hp} {ds:List D} {vs:List V} {i:Int} {d:D} (r:aE H ds vs) (h:atI ds i=some d):∃ v,atI vs i=some v∧Rep H d v:=by
 unfold atI at h ⊢
 rw [r.length]
 cases e:ixN ds.length i with
 | none=>rw [e] at h;cases h
 | some j=>
  rw [e] at h
  exact r.get h
theorem ix_oIx:IxR X (rD oIx):=by
 intro value slice pins s σ H x y v u Q I rx ry h hs
 obtain ⟨Hs,a,b,r,S,va,vb,e,K⟩:=h
 match a,b,e,va,vb with
 | .lst xs,.int i,e,va,vb=>
  cases ea:atI xs i with
  | none=>simp only [oIx,ea] at e;cases e
  | some d=>
   simp only [oIx,ea] at e
   cases e
   obtain ⟨a,vs,eq,h1,h2⟩:=va.lst S
   obtain ⟨w,q1,q2⟩:=nZ h2 ea
   exact ix_list value slice pins s σ H x y v u Q I rx ry ⟨a,vs,i,w,eq,vb.int,.of h1,q1,K w Hs H (.refl S) q2⟩ hs
 | .tup xs,.int i,e,va,vb=>
  cases ea:atI xs i with
  | none=>simp only [oIx,ea] at e;cases e
  | some d=>
   simp only [oIx,ea] at e
   cases e
   obtain ⟨a,vs,eq,h1,h2⟩:=va.tup S
   obtain ⟨w,q1,q2⟩:=nZ h2 ea
   exact ix_tup value slice pins s σ H x y v u Q I rx ry ⟨a,vs,i,w,eq,vb.int,.of h1,q1,K w Hs H (.refl S) q2⟩ hs
theorem c_len:cz X (.builtin "len") (rC1 bJ):=by
 intro pins s σ H xs us Q I rv h
 obtain ⟨x,rfl,Hs,d,r,S,vd,e,K⟩:=h
 match d,e,vd with
 | .lst ds,e,vd=>
  cases e
  obtain ⟨a,vs,eq,h1,h2⟩:=vd.lst S
  exact fK pins s σ H _ us Q I rv ⟨a,vs,by rw [eq],.inl (.of h1),by rw [h2.length];exact K _ Hs H (.refl S) (shI _ _ _ _)⟩
 | .tup ds,e,vd=>
  cases e
  obtain ⟨a,vs,eq,h1,h2⟩:=vd.tup S
  exact fK pins s σ H _ us Q I rv ⟨a,vs,by rw [eq],.inr (.of h1),by rw [h2.length];exact K _ Hs H (.refl S) (shI _ _ _ _)⟩
 | .str z,e,vd=>
  by_cases hc:z.length≤big
  ·
   simp only [bJ,if_pos hc] at e
   cases e
   exact mM pins s σ H _ us Q I rv ⟨z,by rw [vd.str],Nat.le_of_lt (bZ hc),K _ Hs H (.refl S) (shI _ _ _ _)⟩
  ·
   simp only [bJ,if_neg hc] at e;cases e
theorem mW:cz X (.type "list") (rC1 iH):=by
 intro pins s σ H xs us Q I rv h
 obtain ⟨x,rfl,Hs,d,r,S,vd,e,K⟩:=h
 match d,e,vd with
 | .lst ds,e,vd=>
  cases e
  obtain ⟨a,vs,eq,h1,h2⟩:=vd.lst S
  exact iC pins s σ H _ us Q I rv ⟨a,vs,by rw [eq],.inl (.of h1),fun p hp=>K _ Hs _ (.fresh S hp) ⟨p,vs,rfl,hp,S.free hp,aF,h2⟩⟩
 | .tup ds,e,vd=>
  cases e
  obtain ⟨a,vs,eq,h1,h2⟩:=vd.tup S
  exact iC pins s σ H _ us Q I rv ⟨a,vs,by rw [eq],.inr (.of h1),fun p hp=>K _ Hs _ (.fresh S hp) ⟨p,vs,rfl,hp,S.free hp,aF,h2⟩⟩
theorem jm (hc:X.calm=true):cz X (.builtin "min") (rC2 dh):=by
 intro pins s σ H xs us Q I rv h
 obtain ⟨x,y,rfl,Hs,a,b,r,S,va,vb,e,K⟩:=h
 match a,b,e,va,vb with
 | .int i,.int j,e,va,vb=>
  cases e
  exact call_min2 hc pins s σ H _ us Q I rv ⟨i,j,by rw [va.int,vb.int],K _ Hs H (.refl S) (shI _ _ _ _)⟩
theorem kM (hc:X.calm=true):cz X (.builtin "max") (rC2 eG):=by
 intro pins s σ H xs us Q I rv h
 obtain ⟨x,y,rfl,Hs,a,b,r,S,va,vb,e,K⟩:=h
 match a,b,e,va,vb with
 | .int i,.int j,e,va,vb=>
  cases e
  exact call_max2 hc pins s σ H _ us Q I rv ⟨i,j,by rw [va.int,vb.int],K _ Hs H (.refl S) (shI _ _ _ _)⟩
end
end Ew
end
section
set_option Elab.async false
set_option linter.all false
set_option maxRecDepth 100000
namespace Ew
open PySem PySem.Spec L2
def kN (sc:Scope) (No N:List Str) (m:Nat) (ix:List Nat) (scope:Scope):Bool:=
 scope.kind==.function&&scope.names.all (fun y=>!(y.2==.cell))&&scope.names.all (fun y=>!(y.2==.local)||scope.names.lookup y.1==some .local)&&N.length==m+ix.length&&
 scope.names.all (fun y=>!(y.2==.free)||(sc.names.lookup y.1==some .cell||sc.names.lookup y.1==some .free))&&
 (List.range ix.length).all fun j=>match ix[j]?,N[m+j]? with
  | some i,some x=>No[i]?==some x&&scope.names.lookup x==some .free
  | _,_=>false
theorem jn {X:Cx} {sc:Scope} {No N:List Str} {m:Nat} {ix:List Nat} {scope:Scope} (h1:X.env.scope=sc) (h2:X.N=No) (h:kN sc No N m ix scope=true):dn X N m ix scope:=by
 unfold kN at h
 simp only [Bool.and_eq_true] at h
 obtain ⟨⟨⟨⟨⟨a,b⟩,c⟩,d⟩,e⟩,f⟩:=h
 refine ⟨by simpa using a,fun y hy z=>?_,fun y hy z=>?_,by simpa using d,fun y hy z=>?_,fun j i x hi hx=>?_⟩
 ·
  have:=List.all_eq_true.mp b y hy
  simp [z] at this
 ·
  have:=List.all_eq_true.mp c y hy
  simpa [z] using this
 ·
  have:=List.all_eq_true.mp e y hy
  show X.env.scope.names.lookup y.1=_∨X.env.scope.names.lookup y.1=_
  rw [h1]
  simpa [z] using this
 ·
  have hj:j<ix.length:=(List.getElem?_eq_some_iff.mp hi).1
  have:=List.all_eq_true.mp f j (List.mem_range.mpr hj)
  rw [hi,hx] at this
  simp only [Bool.and_eq_true] at this
  rw [h2]
  exact ⟨by simpa using this.1,by simpa using this.2⟩
theorem hu64 {A:Around} {k:Nat} (hr:bC k A):A.units+64<cLine:=by have:=hr.un;omega
section
variable {X:Cx}
theorem af {i:Int} {j:Nat} {pos:Pos}:DE X (.Constant (.int i) j pos) (ac (.int i)):=mP pe_int fun H=>by unfold Rep;rfl
theorem bE {b:Bool} {j:Nat} {pos:Pos}:DE X (.Constant (.bool b) j pos) (ac (.bl b)):=mP pe_bl fun H=>by unfold Rep;rfl
theorem de_non {j:Nat} {pos:Pos}:DE X (.Constant .none j pos) (ac .non):=mP pe_non fun H=>by unfold Rep;rfl
def bls:List D→Option (List Bool)
 | []=>some []
 | .bl b::r=>(bls r).map (b::·)
 | _=>none
theorem bls_are {H:Hp}:∀ {ds:List D} {bs:List Bool} {vs:List V} {us:List Value},bls ds=some bs→aE H ds vs→aQ vs us→PyProof.Rows.LSm.BoolsAre us bs
 | [],bs,vs,us,e,r,q=>by
  unfold bls at e;cases e
  unfold aE at r;subst r
  cases q
  exact .nil
 | d::ds,bs,vs,us,e,r,q=>by
  match d,e with
  | .bl b,e=>
   unfold bls at e
   cases eb:bls ds with
   | none=>rw [eb] at e;cases e
   | some t=>
    rw [eb] at e;cases e
    unfold aE at r
    obtain ⟨v,vr,rfl,r1,r2⟩:=r
    unfold Rep at r1
    subst r1
    cases q with
    | cons q1 q2=>
     cases q1
     exact .cons b (bls_are eb r2 q2)
def jo:D→Option R
 | .lst ds=>(bls ds).map fun bs=>.sh (.bl (bs.all id))
 | _=>none
theorem kept_it {s:Shared} {h':Heap} {o:Obj} (hk:∀ b x,b∉[s.heap.objs.size]→(s.heap.push o).get? b=some x→h'.get? b=some x):∀ b x,s.heap.get? b=some x→h'.get? b=some x:=
 fun b x e=>hk b x (fun hm=>by rw [List.mem_singleton.mp hm] at e;exact Nat.lt_irrefl _ (Heap.lt_size e)) (Heap.get?_push_of_some _ e)
theorem c_all (hc:X.calm=true):cz X (.builtin "all") (rC1 jo):=by
 intro pins s σ H xs us Q I rv h
 obtain ⟨x,rfl,Hs,d,r,S,vd,e,K⟩:=h
 match d,e,vd with
 | .lst ds,e,vd=>
  cases eb:bls ds with
  | none=>simp only [jo,eb] at e;cases e
  | some bs=>
   simp only [jo,eb] at e;cases e
   obtain ⟨a,vs,eq,h1,h2⟩:=vd.lst S
   subst eq
   obtain ⟨u,rfl,ru⟩:=rv.one
   cases (show u=Value.ref a from ru)
   obtain ⟨its,rw',pl,hz⟩:=I.list (SqL.of (K:=X.K) h1)
   have hb:=bls_are eb h2 rw'
   have hl:=pl.isList
   have hh:X.A.handled=none:=I.ok.hd hc
   have hlt:a<s.heap.objs.size:=by obtain ⟨_,e,_⟩:=hl;exact Heap.lt_size e
   refine call_all_walk (wpAny_pyIter_list hl ?_)
   refine ⟨s.heap.objs.size,[s.heap.objs.size,a],[s.heap.objs.size],its.toArray.size,_,_,fun i=>(bs[i]?).getD true,rfl,Walks.list (A:=X.A.in1) hh _ a (Nat.ne_of_lt hlt) its.toArray,
    ⟨⟨_,Heap.get?_push_size _ rfl,rfl,rfl⟩,hl.push _⟩,fun i v s' Q' E' hP hQ=>?_,fun h' tk hk=>?_⟩
   ·
    obtain ⟨b,e,rfl⟩:=hb.get i v (by simpa using hP)
    simp only [e,Option.getD_some] at hQ
    exact wpAny_truthy_bool hQ
   ·
    have e:((List.range its.toArray.size).all fun i=>(bs[i]?).getD true)=bs.all id:=by
     rw [List.size_toArray,hb.length];exact PyProof.Rows.LSm.range_all bs
    rw [e]
    exact ⟨.bl _,H,I.kept (kept_it hk),rfl,K _ Hs H (.refl S) (shB _ _ _ _)⟩
def nums:List D→Option (List Int)
 | []=>some []
 | .int i::r=>(nums r).map (i::·)
 | _=>none
theorem iJ {H:Hp}:∀ {ds:List D} {ns:List Int} {vs:List V} {us:List Value},nums ds=some ns→aE H ds vs→aQ vs us→PyProof.Rows.IntsAre us ns
 | [],bs,vs,us,e,r,q=>by
  unfold nums at e;cases e
  unfold aE at r;subst r
  cases q
  exact .nil
 | d::ds,bs,vs,us,e,r,q=>by
  match d,e with
  | .int b,e=>
   unfold nums at e
   cases eb:nums ds with
   | none=>rw [eb] at e;cases e
   | some t=>
    rw [eb] at e;cases e
    unfold aE at r
    obtain ⟨v,vr,rfl,r1,r2⟩:=r
    unfold Rep at r1
    subst r1
    cases q with
    | cons q1 q2=>
     obtain ⟨t,rfl⟩:=q1
     exact .cons b t (iJ eb r2 q2)
theorem lX {H:Hp}:∀ {ns:List Int} {us:List Value},PyProof.Rows.IntsAre us ns→aQ (ns.map V.int) us∧aE H (ns.map D.int) (ns.map V.int)
 | _,_,.nil=>⟨.nil,.nil⟩
 | _,_,.cons n t h=>by
  obtain ⟨a,b⟩:=lX (H:=H) h
  exact ⟨.cons ⟨t,rfl⟩ a,.cons (by unfold Rep;rfl) b⟩
def best (p:Int→Int→Bool):List Int→Option Int
 | []=>none
 | a::r=>some (r.foldl (fun m x=>if p x m then x else m) a)
theorem best_max:∀ {ns:List Int} {m:Int},m∈ns→(∀ a,a∈ns→a≤m)→best (fun x m=>decide (m<x)) ns=some m:=by
 have go:∀ (r:List Int) (a m:Int),(m=a∨m∈r)→a≤m→(∀ x∈r,x≤m)→r.foldl (fun m x=>if decide (m<x) then x else m) a=m:=by
  intro r
  induction r with
  | nil=>intro a m h _ _;rcases h with h | h;exact h.symm;cases h
  | cons y r ih=>
   intro a m h ha hx
   rw [List.foldl_cons]
   by_cases hy:a<y
   ·
    simp only [hy,decide_true,if_true]
    refine ih y m ?_ (hx y List.mem_cons_self) fun x hx'=>hx x (List.mem_cons_of_mem _ hx')
    rcases h with h | h
    ·
     have:=hx y List.mem_cons_self;omega
    ·
     rcases List.mem_cons.mp h with h | h
     ·
      exact .inl h
     ·
      exact .inr h
   ·
    simp only [hy,decide_false,Bool.false_eq_true,if_false]
    refine ih a m ?_ ha fun x hx'=>hx x (List.mem_cons_of_mem _ hx')
    rcases h with h | h
    ·
     exact .inl h
    ·
     rcases List.mem_cons.mp h with h | h
     ·
      left;omega
     ·
      exact .inr h
 intro ns m hm hle
 cases ns with
 | nil=>cases hm
 | cons a r=>
  show some (r.foldl (fun m x=>if decide (m<x)=true then x else m) a)=some m
  rw [go r a m (List.mem_cons.mp hm) (hle a List.mem_cons_self) fun x hx=>hle x (List.mem_cons_of_mem _ hx)]
def jJ:D→Option R
 | .lst ds=>(nums ds).bind fun ns=>(best (fun x m=>decide (m<x)) ns).map fun m=>.sh (.int m)
 | _=>none
theorem un_list {pins:List (Addr×Obj)} {σ:St} {H Hs:Hp} {s:Shared} (I:L2.Inv X pins σ H s) (S:aN Hs H) {ds:List D} {x:V} {us:List Value} (vd:View Hs H (.lst ds) x) (rv:aQ [x] us) :
  ∃ a vs its,us=[.ref a]∧x=.ref a∧H a=some (.lst vs)∧aE Hs ds vs∧aQ vs its∧PySem.PlainL s.heap a its.toArray∧vs.length≤sizeLine:=by
 obtain ⟨a,vs,eq,h1,h2⟩:=vd.lst S
 subst eq
 obtain ⟨u,rfl,ru⟩:=rv.one
 cases (show u=Value.ref a from ru)
 obtain ⟨its,rw',pl,hz⟩:=I.list (SqL.of (K:=X.K) h1)
 exact ⟨a,vs,its,rfl,rfl,h1,h2,rw',pl,hz⟩
end
end Ew
end
section
set_option Elab.async false
set_option linter.all false
set_option maxRecDepth 100000
namespace Ew
open PySem PySem.Spec L2
section
variable {X:Cx}
def cutD (xs:List D) (lo hi:Option Int):List D:=(xs.drop (HT.sIx xs.length 0 lo)).take (HT.sIx xs.length xs.length hi-HT.sIx xs.length 0 lo)
theorem cut_reps {H:Hp} {ds:List D} {vs:List V} (lo hi:Option Int) (r:aE H ds vs):aE H (cutD ds lo hi) (cutV vs lo hi):=by
 unfold cutD cutV
 rw [r.length]
 exact (r.drop _).take _
abbrev FO:=DSt→Option (Option Int)
def tDO (f:FO):TO:=fun σ H Q=>∃ Hs δ o,aN Hs H∧eZ Hs H δ σ∧f δ=some o∧∀ Hs' H',Wd H Hs Hs' H'→Q o H'
structure DO (X:Cx) (e:Option Expr) (f:FO):Prop where
 go:PO X e (tDO f)
theorem _root_.L2.PO.weak {X:Cx} {e:Option Expr} {t t':TO} (h:PO X e t) (w:∀ σ H Q,t' σ H Q→t σ H Q):PO X e t':=fun pins s σ H Q I q=>h pins s σ H Q I (w σ H Q q)
def gt:FO:=fun _=>some none
def fZ (f:FE):FO:=fun δ=>(f δ).bind fun r=>match r with
 | .sh (.int i)=>some (some i)
 | _=>none
theorem kv:DO X none gt:=.mk <| po_none.weak fun σ H Q ⟨Hs,δ,o,S,En,e,K⟩=>by
 cases e
 exact K Hs H (.refl S)
theorem kx {e:Expr} {f:FE} (h:DE X e f):DO X (some e) (fZ f):=.mk <| (po_some h.go).weak fun σ H Q ⟨Hs,δ,o,S,En,e,K⟩=>by
 unfold fZ at e
 cases ef:f δ with
 | none=>rw [ef] at e;cases e
 | some r=>
  rw [ef] at e
  refine ⟨Hs,δ,r,S,En,ef,fun x Hs1 H1 W1 R1=>?_⟩
  match r,e,R1 with
  | .sh (.int i),e,R1=>
   cases e
   have R1:Rep Hs1 (.int i) x:=R1
   unfold Rep at R1
   exact ⟨i,R1,K Hs1 H1 W1⟩
def dP (f:FE) (fl fh:FO):FE:=fun δ=>(f δ).bind fun r=>(fl δ).bind fun lo=>(fh δ).bind fun hi=>match r.view with
 | .lst ds=>some (.fr (cutD ds lo hi))
 | _=>none
theorem iK {e:Expr} {lo hi:Option Expr} {f:FE} {fl fh:FO} {p2 pos:Pos} (he:DE X e f) (hl:DO X lo fl) (hh:DO X hi fh):DE X (.Subscript e (.Slice lo hi none p2) pos) (dP f fl fh):=.mk <|
 (pe_slice sl_list he.go hl.go hh.go).weak fun σ H Q ⟨Hs,δ,r,S,En,e,K⟩=>by
  unfold dP at e
  cases ef:f δ with
  | none=>rw [ef] at e;cases e
  | some rf=>
   cases el:fl δ with
   | none=>rw [ef,el] at e;cases e
   | some lo=>
    cases eh:fh δ with
    | none=>rw [ef,el,eh] at e;cases e
    | some hi=>
     rw [ef,el,eh] at e
     refine ⟨Hs,δ,rf,S,En,ef,fun x Hs1 H1 W1 R1=>⟨Hs1,δ,lo,W1.sub,En.mono W1,el,fun Hs2 H2 W2=>⟨Hs2,δ,hi,W2.sub,En.mono (W1.trans W2),eh,fun Hs3 H3 W3=>?_⟩⟩⟩
     have vw:=((R1.mono W2).mono W3).view
     replace e:(match rf.view with
      | .lst ds=>some (R.fr (cutD ds lo hi))
      | _=>none)=some r:=e
     cases hv:rf.view with
     | lst ds=>
      rw [hv] at e vw
      cases e
      obtain ⟨a,vs,rfl,h1,h2⟩:=vw.lst W3.sub
      have W13:=W1.trans (W2.trans W3)
      exact ⟨a,vs,rfl,.of h1,fun p hp=>K _ Hs3 _ (W13.trans (.fresh W3.sub hp)) ⟨p,_,rfl,W13.keep.free hp,W3.sub.free hp,aF,cut_reps lo hi h2⟩⟩
     | _=>rw [hv] at e;cases e
def iL (ns:List Int):List Int:=ns.foldl PyProof.Rows.step_dedup []
theorem ph (ns:List Int):PyProof.Rows.firstMet (fun i=>ns.getD i 0) ns.length=iL ns:=by
 unfold PyProof.Rows.firstMet iL
 congr 1
 refine List.ext_getElem? fun i=>?_
 rw [List.getElem?_map]
 by_cases hi:i<ns.length
 ·
  rw [List.getElem?_range hi]
  simp [List.getD,hi]
 ·
  rw [List.getElem?_eq_none (by simpa using hi),List.getElem?_eq_none (by simpa using hi)];rfl
theorem c_setS (hc:X.calm=true):cz X (.type "set") (fun xs H Q=>∃ p vs ns Hs ds,xs=[.ref p]∧H p=some (.lst vs)∧aE Hs ds vs∧nums ds=some ns∧ns.length≤1000∧∀ l,H l=none→Q (.ref l) (L2.upd H l (.set (fun k=>(iL ns).any (·==k)) (iL ns).length))):=by
 intro pins s σ H xs us Q I rv h
 obtain ⟨p,vs,ns,Hs,ds,rfl,h1,h2,e,hz,q⟩:=h
 obtain ⟨u,rfl,ru⟩:=rv.one
 cases (show u=Value.ref p from ru)
 obtain ⟨its,rw',pl,hz'⟩:=I.list (SqL.of (K:=X.K) h1)
 have hi:=iJ e h2 rw'
 have hl:=hi.length
 refine PySem.call_set_list (I.ok.hd hc) pl.isList (by simpa using hi) (by
  rw [List.size_toArray,hl]
  show ns.length+1<4096
  omega) fun h' tk hs hk=>?_
 have hsz:its.toArray.size=ns.length:=by rw [List.size_toArray,hl]
 rw [hsz,ph] at hs
 have k:∀ b u,s.heap.get? b=some u→h'.get? b=some u:=fun b u e=>hk b u (Heap.lt_size e) e
 exact ⟨.ref s.heap.objs.size,_,I.laid (t':=tk) (o:=.set (fun k=>(iL ns).any (·==k)) (iL ns).length) k (Nat.le_refl _) hs,rfl,q _ (I.hok.fresh (Nat.le_refl _))⟩
theorem c_lenS:cz X (.builtin "len") (fun xs H Q=>∃ p S n,xs=[.ref p]∧H p=some (.set S n)∧Q (.int n) H):=by
 intro pins s σ H xs us Q I rv h
 obtain ⟨p,S,n,rfl,h1,q⟩:=h
 obtain ⟨u,rfl,ru⟩:=rv.one
 cases (show u=Value.ref p from ru)
 obtain ⟨o,es,ep,t,ho,hex,hd,_,_,hsc,hf,hn⟩:=(show s.heap.SetOf (intKind X.prog X.w) p S n from I.hok p _ h1)
 have:(es.size:Int)<2 ^ 63:=by
  have:es.size<4096:=hsc
  omega
 refine call_len_set ho hex hd hf this ?_
 rw [hn]
 exact ⟨.int n,H,I.tok _,⟨_,rfl⟩,q⟩
def cV (f:FE):FE:=fun δ=>(f δ).bind fun r=>match r.view with
 | .lst ds=>(nums ds).bind fun ns=>if ns.length≤1000 then some (.sh (.int (iL ns).length)) else none
 | _=>none
theorem gP {e:Expr} {f:FE} {p1 p2 pos1 pos2:Pos} (hc:X.calm=true) (he:DE X e f) (hg:Gl X "len") (hm:X.mg "len" = none) (hg2:Gl X "set") (hm2:X.mg "set" = none)
  (hs:starEach [e] X.env=[(false,eval e X.env)]:=by rfl)
  (hs2:starEach [.Call (.Name "set" p2) [e] [] pos2] X.env=[(false,eval (.Call (.Name "set" p2) [e] [] pos2) X.env)]:=by rfl) :
  DE X (.Call (.Name "len" p1) [.Call (.Name "set" p2) [e] [] pos2] [] pos1) (cV f):=.mk <|
 (gj c_lenS hg hm PySem.boot_len (ce (gM (c_setS hc) hg2 hm2 PyProof.Rows.boot_set (ce he.go eE hs) (he:=hs)) eE hs2) (he:=hs2)).weak fun σ H Q ⟨Hs,δ,r,S,En,e,K⟩=>by
  unfold cV at e
  cases ef:f δ with
  | none=>rw [ef] at e;cases e
  | some rf=>
   rw [ef] at e
   refine ⟨Hs,δ,rf,S,En,ef,fun x Hs1 H1 W1 R1=>?_⟩
   have vw:=R1.view
   replace e:(match rf.view with
    | .lst ds=>(nums ds).bind fun ns=>if ns.length≤1000 then some (R.sh (.int (iL ns).length)) else none
    | _=>none)=some r:=e
   cases hv:rf.view with
   | lst ds=>
    rw [hv] at e vw
    replace e:((nums ds).bind fun ns=>if ns.length≤1000 then some (R.sh (.int (iL ns).length)) else none)=some r:=e
    cases en:nums ds with
    | none=>rw [en] at e;cases e
    | some ns=>
     rw [en] at e
     replace e:(if ns.length≤1000 then some (R.sh (.int (iL ns).length)) else none)=some r:=e
     by_cases hz:ns.length≤1000
     ·
      rw [if_pos hz] at e
      cases e
      obtain ⟨a,vs,rfl,h1,h2⟩:=vw.lst W1.sub
      exact ⟨a,vs,ns,Hs1,ds,rfl,h1,h2,en,hz,fun l hl=>⟨l,_,_,rfl,aF,K _ Hs1 _ (W1.trans (.fresh W1.sub hl)) (shI _ _ _ _)⟩⟩
     ·
      rw [if_neg hz] at e;cases e
   | _=>rw [hv] at e;cases e
def srt (ns:List Int):List Int:=ns.mergeSort (fun a b=>decide (a≤b))
theorem srt_eq {ns ns':List Int} (p:ns'.Perm ns) (s:ns'.Pairwise (·≤·)):ns'=srt ns:=by
 have p2:(srt ns).Perm ns:=List.mergeSort_perm _ _
 have s2:(srt ns).Pairwise (·≤·):=by
  have:=List.pairwise_mergeSort (le:=fun (a b:Int)=>decide (a≤b)) (fun a b c h1 h2=>by simp at *;omega) (fun a b=>by simp;omega) ns
  exact this.imp (fun h=>by simpa using h)
 exact List.Perm.eq_of_pairwise (fun a b _ _ h1 h2=>Int.le_antisymm h1 h2) s s2 (p.trans p2.symm)
def gQ:D→Option R
 | .lst ds=>(nums ds).bind fun ns=>if ns.length<64 then some (.fr ((srt ns).map .int)) else none
 | _=>none
theorem c_sorted:cz X (.builtin "sorted") (rC1 gQ):=by
 intro pins s σ H xs us Q I rv h
 obtain ⟨x,rfl,Hs,d,r,S,vd,e,K⟩:=h
 match d,e,vd with
 | .lst ds,e,vd=>
  cases eb:nums ds with
  | none=>simp only [gQ,eb] at e;cases e
  | some ns=>
   by_cases hz:ns.length<64
   ·
    simp only [gQ,eb,Option.bind,if_pos hz] at e
    cases e
    obtain ⟨a,vs,its,rfl,rfl,h1,h2,rw',pl,hz'⟩:=un_list I S vd rv
    have hi:=iJ eb h2 rw'
    refine PyProof.Rows.sorted_ints pl.isList hi (by rw [hi.length];exact hz) fun out ns' a1 a2 a3=>?_
    have en:=srt_eq a2 a3
    subst en
    obtain ⟨ep,he⟩:=PyProof.Rows.sortedAll_at s.heap its out
    obtain ⟨q1,q2⟩:=lX (H:=Hs) a1
    have k:∀ b u,s.heap.get? b=some u→(PyProof.Rows.sortedAll s.heap its out).get? b=some u:=fun _ _=>PyProof.Rows.sortedAll_old
    have hp:H (s.heap.objs.size+1)=none:=I.hok.fresh (Nat.le_succ _)
    refine ⟨.ref (s.heap.objs.size+1),_,I.laid (t':=s.toks) (o:=.lst ((srt ns).map V.int)) k (Nat.le_succ _) ⟨?_,out.toList,ep,q1,by simpa using he⟩,rfl,K _ Hs _ (.fresh S hp) ⟨_,_,rfl,hp,S.free hp,aF,q2⟩⟩
    rw [List.length_map,a2.length_eq]
    exact Nat.le_of_lt (bZ (Nat.le_trans (Nat.le_of_lt hz) (by decide)))
   ·
    simp only [gQ,eb,Option.bind,if_neg hz] at e;cases e
theorem c_max1 (hc:X.calm=true):cz X (.builtin "max") (rC1 jJ):=by
 intro pins s σ H xs us Q I rv h
 obtain ⟨x,rfl,Hs,d,r,S,vd,e,K⟩:=h
 match d,e,vd with
 | .lst ds,e,vd=>
  cases eb:nums ds with
  | none=>simp only [jJ,eb] at e;cases e
  | some ns=>
   obtain ⟨a,vs,its,rfl,rfl,h1,h2,rw',pl,hz'⟩:=un_list I S vd rv
   have hi:=iJ eb h2 rw'
   cases ns with
   | nil=>simp only [jJ,eb,Option.bind,best] at e;cases e
   | cons n0 nr=>
    obtain ⟨ys,hx⟩:=hi.allInts.items
    have hns:n0::nr=ys.toList.map (·.1):=by rw [←hi.numsOf,←nums_intItems,←hx]
    have hsz:0<ys.size:=by
     have:=congrArg List.length hns
     simp at this
     omega
    have hl:s.heap.IsList a (intItems ys):=hx▸pl.isList
    refine max_intList (I.ok.hd hc) hl hsz fun v h' tk hv hk=>?_
    obtain ⟨t,rfl⟩:=intItems_at hv
    obtain ⟨q1,q2⟩:=argBest_gt (numAt ys) (ys.size-1)
    have mem:∀ j,j<ys.size→numAt ys j∈n0::nr:=fun j hj=>by
     rw [hns]
     unfold numAt
     simp only [Array.getElem?_eq_getElem hj,Option.map_some,Option.getD_some]
     exact List.mem_map.mpr ⟨ys[j],by simp,rfl⟩
    have eb2:best (fun x m=>decide (m<x)) (n0::nr)=some (numAt ys (argBest (fun i j=>decide (numAt ys i>numAt ys j)) (ys.size-1))):=by
     refine best_max (mem _ (by omega)) fun b hb=>?_
     rw [hns] at hb
     obtain ⟨y,hy,rfl⟩:=List.mem_map.mp hb
     obtain ⟨j,hj,rfl⟩:=Array.mem_iff_getElem.mp (by simpa using hy)
     have:=q2 j (by omega)
     unfold numAt at this ⊢
     simpa [hj] using this
    simp only [jJ,eb,Option.bind,eb2] at e
    cases e
    exact ⟨.int _,H,I.kept hk,⟨_,rfl⟩,K _ Hs H (.refl S) (shI _ _ _ _)⟩
end
end Ew
end
section
set_option Elab.async false
set_option linter.all false
set_option maxRecDepth 100000
namespace L2
open PySem PySem.Spec PyProof.Rows
section
variable {X:Cx} {pins:List (Addr×Obj)} {σ:List (Option V)} {H H':Hp} {s:Shared} {h':Heap}
theorem Inv.turnNew {t':Nat} {ch:List Addr} {p:Addr} {o:HO} (I:Inv X pins σ H s) (hp:s.heap.objs.size≤p) (k:∀ b u,b∉ch→s.heap.get? b=some u→h'.get? b=some u) (hf:∀ b∈ch,FpOk X pins H b)
  (new:cB X.prog X.w (upd H p o) h' p o):Inv X pins σ (upd H p o) { s with heap:=h',toks:=t' }:=by
 have hn:H p=none:=I.hok.fresh hp
 have nch:∀ b u,H b=some u→b∉ch:=fun b u e z=>by rw [(hf b z).1] at e;cases e
 refine I.step (g':=s.gens) (d':=s.drawn) (ch:=ch) (fun b hb=>⟨(hf b hb).2.2.2.1,(hf b hb).2.1,(hf b hb).2.2.2.2.1,(hf b hb).2.2.2.2.2⟩) (fun b u _ _ hc e _=>k b u hc e) (fun b u _ _ hc e _=>⟨u.slots,k b u hc e⟩)
  (fun b u _ e n=>by rw [aH (Nat.ne_of_lt (Nat.lt_of_lt_of_le (Heap.lt_size e) hp))];exact n) (fun b u hc e=>⟨u,k b u hc e⟩)
  (fun b xs e=>by rw [aH (aR e hn)];exact e) (fun b u xs e=>by rw [aH (aR e hn)];exact e) (fun b ps e=>⟨#[],by rw [aH (aR e hn),e];simp⟩) (fun m hm=>?_) (fun b u e=>?_) I.bare
 ·
  obtain ⟨ob,es,ep,ho,r⟩:=hm
  exact ⟨ob,es,ep,k _ ob (fun z=>(hf _ z).2.1 rfl) ho,r⟩
 ·
  by_cases hb:b=p
  ·
   subst hb;rw [aF] at e;cases e;exact new
  ·
   rw [aH hb] at e
   refine (I.hok b u e).stay (fun c v hc q=>k c v ?_ q) (fun c q=>by rw [aH (aR q hn)];exact q) fun c xs q=>by rw [aH (aR q hn)];exact q
   rcases hc with z | z
   ·
    rw [z];exact nch b u e
   ·
    exact nch c _ z
theorem Inv.turnedL {t':Nat} {ch:List Addr} (I:Inv X pins σ H s) (k:∀ b u,b∉ch→s.heap.get? b=some u→h'.get? b=some u) (hf:∀ b∈ch,FpOk X pins H b):Inv X pins σ H { s with heap:=h',toks:=t' }:=by
 have nch:∀ b u,H b=some u→b∉ch:=fun b u e z=>by rw [(hf b z).1] at e;cases e
 refine I.step (g':=s.gens) (d':=s.drawn) (ch:=ch) (fun b hb=>⟨(hf b hb).2.2.2.1,(hf b hb).2.1,(hf b hb).2.2.2.2.1,(hf b hb).2.2.2.2.2⟩) (fun b u _ _ hc e _=>k b u hc e) (fun b u _ _ hc e _=>⟨u.slots,k b u hc e⟩)
  (fun b u _ e n=>n) (fun b u hc e=>⟨u,k b u hc e⟩)
  (fun b xs e=>e) (fun b u xs e=>e) (fun b ps e=>⟨#[],by rw [e];simp⟩) (fun m hm=>?_) (fun b u e=>?_) I.bare
 ·
  obtain ⟨ob,es,ep,ho,r⟩:=hm
  exact ⟨ob,es,ep,k _ ob (fun z=>(hf _ z).2.1 rfl) ho,r⟩
 ·
  refine (I.hok b u e).stay (fun c v hc q=>k c v ?_ q) (fun c q=>q) fun c xs q=>q
  rcases hc with z | z
  ·
   rw [z];exact nch b u e
  ·
   exact nch c _ z
end
theorem two_line:(2:Nat)≤sizeLine:=by rw [sizeLine_eq];decide
section
variable {X:Cx} {elts:List Expr} {k:Nat} {tp:Pos}
def Ite (K:PySem.W.Frag) (a:Addr):It:=
 ⟨fun i H=>∃ xs x,SqL K H a xs∧xs[i]?=some x,
  fun i H v H'=>∃ p x,v=.ref p∧H p=none∧H'=upd H p (.tup [.int i,x])∧∀ xs,SqL K H a xs→xs[i]?=some x,
  fun i H=>∃ xs,SqL K H a xs∧xs.length≤i⟩
theorem turn_enum {P:Program} {w:World} {K:PySem.W.Frag} (a e it:Addr) (hne:e≠it) :
  Turn P w K (.Tuple elts k tp) (Ite K a) [e,it] e (fun i h=>(∃ old,IsEnum h e it i old)∧h.IsListIter it a i) where
 mem:=by simp
 obj:=fun i h st c hc=>by
  obtain ⟨⟨old,he⟩,⟨o1,e1,c1,d1⟩⟩:=st
  simp at hc
  rcases hc with rfl | rfl
  ·
   exact ⟨_,he,fun v z=>by cases (show Data.fields _=Data.cell v from z)⟩
  ·
   exact ⟨o1,e1,fun v z=>by rw [d1] at z;cases z⟩
 keep:=fun i h h' st k=>by
  obtain ⟨⟨old,he⟩,h1⟩:=st
  exact ⟨⟨old,k e (by simp) _ he⟩,h1.at fun o e=>k it (by simp) o e⟩
 item:=by
  intro X hP hw hK hc i pins s σ H E I hf st hg
  subst hP hw hK
  obtain ⟨⟨old,he⟩,h1⟩:=st
  obtain ⟨xs,x,hqa,hx⟩:=hg
  obtain ⟨its1,rv1,p1,hz1⟩:=I.list hqa
  obtain ⟨u1,hu1,ru1⟩:=rv1.get hx
  refine wpAny_pyNext_enum_item he h1 p1.isList (x:=u1) (by simpa using hu1) hne fun h' a1 a2 a3 a4 hk=>?_
  have hsz:e<s.heap.objs.size:=Heap.lt_size he
  refine ⟨_,rfl,wpAny_letOwnedTupleGo_enum a1 fun h'' hz'' hs''=>?_⟩
  have keep:∀ c o,c∉[e,it]→s.heap.get? c=some o→h''.get? c=some o:=fun c o hc e'=>by
   simp at hc
   exact hs''.extBut c o hc.1 (hk c o hc.1 hc.2 e')
  have tup:h''.get? s.heap.objs.size=some { cls:=.type "tuple",data:=.seq #[.int i s.toks,u1] }:=hs''.extBut _ _ (Nat.ne_of_gt hsz) a3
  have hn:H s.heap.objs.size=none:=I.hok.fresh (Nat.le_refl _)
  refine ⟨.ref s.heap.objs.size,upd H s.heap.objs.size (.tup [.int i,x]),I.turnNew (t':=s.toks+1) (ch:=[e,it]) (Nat.le_refl _) keep hf ?_,rfl,⟨_,x,rfl,hn,rfl,fun zs hzs=>by rw [I.list_inj hzs hqa];exact hx⟩,?_,fun c hc=>?_⟩
  ·
   exact ⟨two_line,[.int i s.toks,u1],.cons ⟨_,rfl⟩ (.cons ru1 .nil),⟨_,tup,rfl,_,rfl⟩⟩
  ·
   exact ⟨⟨_,by simpa using hz''⟩,a2.extBut hs''.extBut (Ne.symm hne)⟩
  ·
   have:c≠s.heap.objs.size:=by
    obtain ⟨o,ho,_⟩ : ∃ o,s.heap.get? c=some o∧True:=by
     simp at hc
     rcases hc with rfl | rfl
     ·
      exact ⟨_,he,trivial⟩
     ·
      obtain ⟨o,e,_⟩:=h1;exact ⟨o,e,trivial⟩
    exact Nat.ne_of_lt (Heap.lt_size ho)
   rw [aH this]
   exact (hf c hc).1
 done:=by
  intro X hP hw hK hc i pins s σ H E I hf st hg
  subst hP hw hK
  obtain ⟨⟨old,he⟩,h1⟩:=st
  obtain ⟨xs,hqa,hend⟩:=hg
  obtain ⟨its1,rv1,p1,hz1⟩:=I.list hqa
  have l1:=rv1.length
  exact wpAny_pyNext_enum_end (I.ok.hd hc) he h1 p1.isList (by simp;omega) fun h' hk=>⟨rfl,I.turnedL (t':=s.toks) (ch:=[e,it]) (fun c o hc' e'=>by
    simp at hc'
    exact hk c o hc'.2 e') hf⟩
 self:=fun _ _ _ _ _ st h=>by obtain ⟨⟨old,he⟩,_⟩:=st;exact wpAny_pyIter_enum he h
def iEnum (K:PySem.W.Frag) (ta:TA):TI:=fun σ H R=>ta σ H fun vs H1=>∃ a xs,vs=[.ref a]∧H1 a=some (.lst xs)∧R (Ite K a) H1
theorem pi_enum {a:Expr} {ta:TA} {p pos:Pos} (hg:Gl X "enumerate") (hm:X.mg "enumerate" = none) (ha:PA X [a] ta) (hs:starEach [a] X.env=[(false,eval a X.env)]:=by rfl) :
  PI X (.Tuple elts k tp) (.Call (.Name "enumerate" p) [a] [] pos) (iEnum X.K ta):=by
 intro pins s σ H R I h
 refine Call_ (ib I hg hm boot_enumerate (PyProof.Rows.callWith_type1 (thn (ha pos pins s σ H _ I h) fun us s1 ⟨vs,H1,I1,r1,q1⟩=>?_) hs rfl))
 obtain ⟨x,xs,e,hx,q⟩:=q1
 subst e
 cases r1 with
 | cons r rr=>
  cases rr
  cases r
  obtain ⟨z,its,n,rv,eo⟩:=I1.hok x _ hx
  refine call_enumerate_1 eo fun h' a1 a2 a3 kk=>?_
  refine wpAny_pyIter_enum a1 ?_
  refine ⟨_,_,_,_,H1,rfl,I1.kept (t':=s1.toks) kk,turn_enum x (s1.heap.objs.size+1) s1.heap.objs.size (Nat.succ_ne_self _),⟨⟨_,a1⟩,a2⟩,fun c hc=>?_,q⟩
  have:s1.heap.objs.size≤c:=by
   simp at hc
   rcases hc with rfl | rfl <;> omega
  exact I1.fpOk this (I1.hok.fresh this)
end
end L2
namespace Ew
open PySem PySem.Spec L2
section
variable {X:Cx} {elts:List Expr} {k:Nat} {tp:Pos}
def izip (fa:DSt→Option (List R)):DSt→Option (List D):=fun δ=>(fa δ).bind fun rs=>match rs with
 | [r,s]=>if r.isBw=true∨s.isBw=true then none else match r.view,s.view with
  | .lst xs,.lst ys=>some (List.zipWith (fun x y=>.tup [x,y]) xs ys)
  | _,_=>none
 | _=>none
def iM (fa:DSt→Option (List R)):DSt→Option (List D):=fun δ=>(fa δ).bind fun rs=>match rs with
 | [r]=>if r.isBw=true then none else match r.view with
  | .lst xs=>some (List.zipWith (fun (k:Nat) x=>.tup [.int k,x]) (List.range xs.length) xs)
  | _=>none
 | _=>none
theorem rep_tup2 {H:Hp} {p:Addr} {x y:V} {dx dy:D} (h:H p=some (.tup [x,y])) (r1:Rep H dx x) (r2:Rep H dy y):Rep H (.tup [dx,dy]) (.ref p):=by
 unfold Rep
 exact ⟨p,_,rfl,h,.cons r1 (.cons r2 .nil)⟩
theorem di_enum {a:Expr} {fa:DSt→Option (List R)} {p pos:Pos} (hg:Gl X "enumerate") (hm:X.mg "enumerate" = none) (ha:DA X [a] fa) (hs:starEach [a] X.env=[(false,eval a X.env)]:=by rfl) :
  DI X (.Tuple elts k tp) (.Call (.Name "enumerate" p) [a] [] pos) (iM fa):=.mk <|
 (pi_enum hg hm ha.go hs).weak fun σ H R0 ⟨Hs,δ,items,S,En,e,K⟩=>by
  unfold iM at e
  cases ef:fa δ with
  | none=>rw [ef] at e;cases e
  | some rs=>
   rw [ef] at e
   refine ⟨Hs,δ,rs,S,En,ef,fun vs Hs1 H1 W1 R1=>?_⟩
   match rs,e,R1 with
   | [r],e,⟨v,t,ev,q1,q2⟩=>
    have q2:t=[]:=q2
    subst q2
    subst ev
    by_cases hb:r.isBw=true
    ·
     simp only [Option.bind,if_pos hb] at e;cases e
    ·
     simp only [Option.bind,if_neg hb] at e
     obtain ⟨Hs2,q,W2⟩:=q1.share W1 (fun ds z=>hb (by rw [z];rfl))
     cases hr:r.view with
     | lst xs=>
      rw [hr] at e q
      cases e
      unfold Rep at q
      obtain ⟨a1,us1,rfl,g1,g2⟩:=q
      refine ⟨a1,us1,rfl,W2.sub _ _ g1,K _ Hs2 H1 W2 ?_⟩
      intro i Hs5 H5 S1 S2
      have hH1:=S2 _ _ (S1 _ _ g1)
      refine ⟨fun d hd=>?_,fun hl=>⟨us1,.of hH1,by rw [g2.length];simpa using hl⟩⟩
      rw [List.getElem?_zipWith] at hd
      cases ex:xs[i]? with
      | none=>rw [ex] at hd;simp at hd
      | some dx=>
       have hi:i<xs.length:=(List.getElem?_eq_some_iff.mp ex).1
       rw [ex,List.getElem?_range hi] at hd
       simp at hd
       subst hd
       obtain ⟨w1,hw1,rw1⟩:=g2.get ex
       refine ⟨⟨us1,w1,.of hH1,hw1⟩,fun x H' yl=>?_⟩
       obtain ⟨pp,x1,rfl,hpp,rfl,z1⟩:=yl
       have z1:=z1 us1 (.of hH1)
       rw [hw1] at z1;cases z1
       have nw:aN Hs5 (L2.upd Hs5 pp (.tup [.int i,w1])):=.new (S2.free hpp)
       exact ⟨L2.upd Hs5 pp (.tup [.int i,w1]),.lay S2 hpp,rep_tup2 aF (by unfold Rep;rfl) (Rep.mono (S1.trans nw) _ rw1)⟩
     | _=>rw [hr] at e;cases e
end
end Ew
end
section
set_option Elab.async false
set_option linter.all false
set_option maxRecDepth 100000
namespace Ew
open PySem PySem.Spec L2
theorem StR.upd {H0 Hs0 Hs H:Hp} {δ:DSt} {σ:St} {i:Nat} {ds ds':List D} {a:Addr} {vs vs':List V} (W:Wd H0 Hs0 Hs H) (S:StR H0 Hs H δ σ) (q:δ[i]?=some (some (.ow ds))) (hv:σ[i]?=some (some (.ref a)))
  (h1:H a=some (.lst vs)) (m:Hs a=none) (r:aE Hs ds' vs'):Wd H0 Hs0 Hs (L2.upd H a (.lst vs'))∧StR H0 Hs (L2.upd H a (.lst vs')) (δ.set i (some (.ow ds'))) σ:=by
 have:=S.upG (Hs':=Hs) (H':=L2.upd H a (.lst vs')) (e':=.ow ds') (v':=.ref a) W q hv (fun b o n e=>by
  have:b≠a:=fun z=>n (by rw [z];rfl)
  rw [aH this];exact e) (fun b o e=>by rw [aH (aR e m)];exact W.sub _ _ e) (.refl _) (fun _ _ e=>.inl e) ⟨a,vs',rfl,m,aF,r⟩ (fun b f=>.inl f)
 rw [set_same hv] at this
 exact this
def dg (i:Nat) (f:FE):FS:=fun δ=>match δ[i]? with
 | some (some (.ow ds))=>(f δ).bind fun r=>if r.isBw=true then none else if ds.length≤big then some (.nx (δ.set i (some (.ow (ds++[r.view]))))) else none
 | _=>none
def sext (i:Nat) (f:FE):FS:=fun δ=>match δ[i]? with
 | some (some (.ow ds))=>(f δ).bind fun r=>match r.view with
  | .lst es=>if ds.length+es.length≤big then some (.nx (δ.set i (some (.ow (ds++es))))) else none
  | _=>none
 | _=>none
section
variable {X:Cx} {e:Expr} {f:FE}
theorem cL {i:Nat} {x:Str} {xp apos cpos pos:Pos} (hx:PE X (.Name x xp) (jY i)) (he:DE X e f)
  (hbase:attributeBase (.Name x xp) "append" X.env (eval (.Name x xp) X.env)=eval (.Name x xp) X.env:=by rfl)
  (hfew:((backTo cpos (starEach [e] X.env)).all (fun x=>!x.1)&&(backToKw cpos (keywordEach [] X.env)).all (fun x=>x.1.isSome)
   &&decide ([e].length+([]:List Keyword).length+(if ([]:List Keyword).isEmpty then 0 else 1)<30))=true:=by rfl)
  (hline:(apos.endLine==cpos.line)=true:=by rfl) (hs:starEach [e] X.env=(false,eval e X.env)::starEach [] X.env:=by rfl)
  (hsw:swapsWith (.Call (.Attribute (.Name x xp) "append" apos) [e] [] cpos) none pos.line X.env=pure false:=by rfl) :
  DS X (.Expr (.Call (.Attribute (.Name x xp) "append" apos) [e] [] cpos) pos) (dg i f):=.mk fun H0 Hs0=>
 (iA (pe_bm PySem.F.plainAttrs_list PySem.F.slot_list_append PySem.F.type_list_append lS hx (ce he.go eE hs) hbase hfew hline hs) hsw).weak fun D σ H ⟨Hs,δ,res,W,S,e,P⟩=>by
  unfold dg at e
  cases q:δ[i]? with
  | none=>rw [q] at e;cases e
  | some o=>
   rw [q] at e
   match o,e with
   | some (.ow ds),e=>
    obtain ⟨v,hv,a,vs,rfl,m,h1,h2⟩:=S.ent i _ q
    cases ef:f δ with
    | none=>simp only [ef] at e;cases e
    | some r=>
     simp only [ef,Option.bind] at e
     by_cases hb:r.isBw=true
     ·
      rw [if_pos hb] at e;cases e
     ·
      rw [if_neg hb] at e
      by_cases hz:ds.length≤big
      ·
       rw [if_pos hz] at e
       cases e
       refine ⟨_,hv,.inl ⟨rfl,vs,.of h1⟩,Hs,δ,r,W.sub,S.ent,ef,fun y Hs1 H1 W1 R1=>?_⟩
       obtain ⟨Hs2,g,W2⟩:=R1.share W1 (fun ds z=>hb (by rw [z];rfl))
       have S2:=S.mono W2
       refine ⟨a,vs,y,rfl,rfl,W2.keep _ _ h1,?_,?_⟩
       ·
        rw [h2.length];exact bZ hz
       ·
        obtain ⟨W3,S3⟩:=S2.upd (W.trans W2) q hv (W2.keep _ _ h1) (W2.stay h1 m) ((aE.mono W2.base _ h2).append (.cons g .nil))
        exact P σ Hs2 _ W3 S3
      ·
       rw [if_neg hz] at e;cases e
theorem lY {i:Nat} {x:Str} {xp apos cpos pos:Pos} (hx:PE X (.Name x xp) (jY i)) (he:DE X e f)
  (hbase:attributeBase (.Name x xp) "extend" X.env (eval (.Name x xp) X.env)=eval (.Name x xp) X.env:=by rfl)
  (hfew:((backTo cpos (starEach [e] X.env)).all (fun x=>!x.1)&&(backToKw cpos (keywordEach [] X.env)).all (fun x=>x.1.isSome)
   &&decide ([e].length+([]:List Keyword).length+(if ([]:List Keyword).isEmpty then 0 else 1)<30))=true:=by rfl)
  (hline:(apos.endLine==cpos.line)=true:=by rfl) (hs:starEach [e] X.env=(false,eval e X.env)::starEach [] X.env:=by rfl)
  (hsw:swapsWith (.Call (.Attribute (.Name x xp) "extend" apos) [e] [] cpos) none pos.line X.env=pure false:=by rfl) :
  DS X (.Expr (.Call (.Attribute (.Name x xp) "extend" apos) [e] [] cpos) pos) (sext i f):=.mk fun H0 Hs0=>
 (iA (pe_bm PySem.F.plainAttrs_list PySem.F.slot_list_extend PySem.F.type_list_extend mt_extend hx (ce he.go eE hs) hbase hfew hline hs) hsw).weak fun D σ H ⟨Hs,δ,res,W,S,e,P⟩=>by
  unfold sext at e
  cases q:δ[i]? with
  | none=>rw [q] at e;cases e
  | some o=>
   rw [q] at e
   match o,e with
   | some (.ow ds),e=>
    obtain ⟨v,hv,a,vs,rfl,m,h1,h2⟩:=S.ent i _ q
    cases ef:f δ with
    | none=>simp only [ef] at e;cases e
    | some r=>
     simp only [ef,Option.bind] at e
     refine ⟨_,hv,.inl ⟨rfl,vs,.of h1⟩,Hs,δ,r,W.sub,S.ent,ef,fun y Hs1 H1 W1 R1=>?_⟩
     have vw:=R1.view
     cases hr:r.view with
     | lst es=>
      rw [hr] at e vw
      replace e:(if ds.length+es.length≤big then some (Res.nx (δ.set i (some (.ow (ds++es))))) else none)=some res:=e
      by_cases hz:ds.length+es.length≤big
      ·
       rw [if_pos hz] at e
       cases e
       obtain ⟨b,us,rfl,g1,g2⟩:=vw.lst W1.sub
       have S2:=S.mono W1
       refine ⟨a,b,vs,us,rfl,rfl,W1.keep _ _ h1,g1,?_,?_⟩
       ·
        rw [h2.length,g2.length];exact Nat.le_of_lt (bZ hz)
       ·
        obtain ⟨W3,S3⟩:=S2.upd (W.trans W1) q hv (W1.keep _ _ h1) (W1.stay h1 m) ((aE.mono W1.base _ h2).append g2)
        exact P σ Hs1 _ W3 S3
      ·
       rw [if_neg hz] at e;cases e
     | _=>rw [hr] at e;cases e
def j6 (g:Int→Int→Int) (i:Nat) (f:FE):FS:=fun δ=>match δ[i]? with
 | some (some (.sh (.int a)))=>(f δ).bind fun r=>match r with
  | .sh (.int b)=>some (.nx (δ.set i (some (.sh (.int (g a b))))))
  | _=>none
 | _=>none
theorem ds_aug {i:Nat} {x:Str} {op:Operator} {g:Int→Int→Int} {pos pos':Pos} (hN:X.N.Nodup) (hi:X.N[i]?=some x) (hx:Loc X.env.scope x) (he:DE X e f) (ho:PIp X op (ipI g))
  (hf:X.fn x=true∨X.env.scope.names.lookup x=some .local:=by first | exact .inl rfl | exact .inr rfl | assumption):DS X (.AugAssign (.Name x pos') op e pos) (j6 g i f):=.mk fun H0 Hs0=>
 (ps_aug hN hi hx he.go ho hf).weak fun D σ H ⟨Hs,δ,res,W,S,e,P⟩=>by
  unfold j6 at e
  cases q:δ[i]? with
  | none=>rw [q] at e;cases e
  | some o=>
   rw [q] at e
   match o,e with
   | some (.sh (.int a)),e=>
    obtain ⟨v,hv,hr⟩:=S.ent i _ q
    have hr:Rep Hs (.int a) v:=hr
    unfold Rep at hr
    subst hr
    refine ⟨_,hv,?_⟩
    cases ef:f δ with
    | none=>simp only [ef] at e;cases e
    | some r=>
     simp only [ef,Option.bind] at e
     refine ⟨Hs,δ,r,W.sub,S.ent,ef,fun y Hs1 H1 W1 R1=>?_⟩
     match r,e,R1 with
     | .sh (.int b),e,R1=>
      cases e
      have R1:Rep Hs1 (.int b) y:=R1
      unfold Rep at R1
      exact ⟨a,b,rfl,R1,P _ Hs1 H1 (W.trans W1) (S.set (r:=.sh (.int (g a b))) W W1 (shI _ _ _ _) rfl)⟩
end
end Ew
end
section
set_option Elab.async false
set_option linter.all false
set_option maxRecDepth 100000
namespace Ew
open PySem PySem.Spec L2
section
variable {X:Cx}
theorem c_rng1:cz X (.type "range") (fun xs H Q=>∃ j:Int,xs=[.int j]∧∀ r,H r=none→Q (.ref r) (L2.upd H r (.rng 0 j))):=by
 intro pins s σ H xs us Q I rv h
 obtain ⟨j,rfl,q⟩:=h
 obtain ⟨u,rfl,t,rfl⟩:=rv.one
 refine call_range_1 ?_
 exact ⟨.ref s.heap.objs.size,_,I.laid (o:=.rng 0 j) (fun b o e=>Heap.get?_push_of_some _ e) (Nat.le_refl _) ⟨_,_,_,Heap.get?_push_size _ rfl⟩,rfl,q _ (I.hok.fresh (Nat.le_refl _))⟩
theorem c_listR (hc:X.calm=true):cz X (.type "list") (fun xs H Q=>∃ r lo hi,xs=[.ref r]∧H r=some (.rng lo hi)∧(-1000000≤lo∧lo≤1000000∧-1000000≤hi∧hi≤1000000)∧
  ∀ l,H l=none→Q (.ref l) (L2.upd H l (.lst ((List.range (hi-lo).toNat).map fun k=>V.int (lo+(k:Nat)))))):=by
 intro pins s σ H xs us Q I rv h
 obtain ⟨r,lo,hi,rfl,h1,⟨b1,b2,b3,b4⟩,q⟩:=h
 obtain ⟨u,rfl,ru⟩:=rv.one
 cases (show u=Value.ref r from ru)
 obtain ⟨t,u,v,e⟩:=(show ∃ t u v,s.heap.get? r=some { cls:=.type "range",data:=.fields #[.int lo t,.int hi u,.int 1 v] } from I.hok r _ h1)
 have e2:Builtin.Range.rangeSize lo hi 1=(((hi-lo).toNat:Nat):Int):=by rw [rangeSize_one];split <;> omega
 refine call_list_range (I.ok.hd hc) e (small_one (by omega) (by omega) (by omega) (by omega)) e2 (by omega) fun h' tk acc' c' kk ho hacc=>?_
 obtain ⟨hs,hall⟩:=hacc
 have hv:aQ ((List.range (hi-lo).toNat).map fun k=>V.int (lo+(k:Nat))) acc'.toList:=by
  have gen:∀ (n:Nat) (a:Int) (l:List Value),l.length=n→(∀ (j:Nat) (v:Value),l[j]?=some v→∃ t,v=Value.int (a+(j:Nat)) t)→aQ ((List.range n).map fun k=>V.int (a+(k:Nat))) l:=by
   intro n
   induction n with
   | zero=>intro a l hl _;rw [List.length_eq_zero_iff.mp hl];exact .nil
   | succ n ih=>
    intro a l hl hall
    cases l with
    | nil=>cases hl
    | cons v l=>
     rw [List.range_succ_eq_map,List.map_cons,List.map_map]
     obtain ⟨t,ht⟩:=hall 0 v rfl
     refine .cons ⟨t,by simpa using ht⟩ ?_
     have:=ih (a+1) l (by simpa using hl) fun j w hw=>by
      obtain ⟨t,ht⟩:=hall (j+1) w (by simpa using hw)
      exact ⟨t,by rw [ht];congr 1;push_cast;omega⟩
     have e3:((fun k:Nat=>V.int (a+(k:Nat)))∘Nat.succ)=fun k:Nat=>V.int (a+1+(k:Nat)):=by
      funext k
      show V.int _=V.int _
      congr 1
      push_cast
      omega
     rw [e3]
     exact this
  refine gen _ lo acc'.toList (by simpa using hs) fun j v hj=>?_
  obtain ⟨t,ht⟩:=hall j v (by simpa using hj)
  exact ⟨t,by rw [ht];congr 1;omega⟩
 refine ⟨.ref s.heap.objs.size,_,I.laid (t':=tk) (o:=.lst _) kk (Nat.le_refl _) ⟨?_,acc'.toList,c',hv,by simpa using ho⟩,rfl,q _ (I.hok.fresh (Nat.le_refl _))⟩
 rw [List.length_map,List.length_range,PySem.sizeLine_eq]
 omega
def rngD (lo hi:Int):Option R:=if -1000000≤lo∧lo≤1000000∧-1000000≤hi∧hi≤1000000 then some (.fr ((List.range (hi-lo).toNat).map fun k=>.int (lo+(k:Nat)))) else none
def iN (fa:DSt→Option (List R)):FE:=fun δ=>(fa δ).bind fun rs=>match rs with
 | [.sh (.int j)]=>rngD 0 j
 | _=>none
theorem n4 {H:Hp} (lo:Int):∀ l:List Nat,aE H (l.map fun k=>D.int (lo+(k:Nat))) (l.map fun k=>V.int (lo+(k:Nat)))
 | []=>.nil
 | k::l=>.cons (by unfold Rep;rfl) (n4 lo l)
theorem rng_end {σ:St} {H Hs Hs1 H1:Hp} {lo hi:Int} {r:R} {Q:VK} (W1:Wd H Hs Hs1 H1) (e:rngD lo hi=some r) (K:∀ v Hs' H',Wd H Hs Hs' H'→dq H Hs' H' r v→Q v H') {p:Addr} (hp:H1 p=none) :
  ∃ r' lo' hi',[V.ref p]=[V.ref r']∧(L2.upd H1 p (.rng lo hi)) r'=some (.rng lo' hi')∧(-1000000≤lo'∧lo'≤1000000∧-1000000≤hi'∧hi'≤1000000)∧
   ∀ l,(L2.upd H1 p (.rng lo hi)) l=none→Q (.ref l) (L2.upd (L2.upd H1 p (.rng lo hi)) l (.lst ((List.range (hi'-lo').toNat).map fun k=>V.int (lo'+(k:Nat))))):=by
 unfold rngD at e
 by_cases hc:-1000000≤lo∧lo≤1000000∧-1000000≤hi∧hi≤1000000
 ·
  rw [if_pos hc] at e
  cases e
  refine ⟨p,lo,hi,rfl,aF,hc,fun l hl=>?_⟩
  have W2:Wd H Hs Hs1 (L2.upd H1 p (.rng lo hi)):=W1.trans (.fresh W1.sub hp)
  exact K _ Hs1 _ (W2.trans (.fresh W2.sub hl)) ⟨l,_,rfl,W2.keep.free hl,W2.sub.free hl,aF,n4 lo _⟩
 ·
  rw [if_neg hc] at e;cases e
theorem n5 {a:Expr} {fa:DSt→Option (List R)} {p1 p2 pos1 pos2:Pos} (hc:X.calm=true) (ha:DA X [a] fa) (hg:Gl X "list") (hm:X.mg "list" = none) (hg2:Gl X "range") (hm2:X.mg "range" = none)
  (hs:starEach [a] X.env=[(false,eval a X.env)]:=by rfl)
  (hs2:starEach [.Call (.Name "range" p2) [a] [] pos2] X.env=[(false,eval (.Call (.Name "range" p2) [a] [] pos2) X.env)]:=by rfl) :
  DE X (.Call (.Name "list" p1) [.Call (.Name "range" p2) [a] [] pos2] [] pos1) (iN fa):=.mk <|
 (gM (c_listR hc) hg hm PyProof.Rows.boot_list (ce (gM c_rng1 hg2 hm2 PyProof.Rows.boot_range ha.go (he:=hs)) eE hs2) (he:=hs2)).weak fun σ H Q ⟨Hs,δ,r,S,En,e,K⟩=>by
  unfold iN at e
  cases ef:fa δ with
  | none=>rw [ef] at e;cases e
  | some rs=>
   rw [ef] at e
   refine ⟨Hs,δ,rs,S,En,ef,fun vs Hs1 H1 W1 R1=>?_⟩
   match rs,e,R1 with
   | [.sh (.int j)],e,⟨v,t,ev,q1,q2⟩=>
    have q2:t=[]:=q2
    have q1:Rep Hs1 (.int j) v:=q1
    unfold Rep at q1
    exact ⟨j,by rw [ev,q1,q2],fun p hp=>rng_end (σ:=σ) W1 e K hp⟩
def e8:D→Option R
 | .int i=>some (.sh (.int (-i)))
 | _=>none
theorem jp {a:Expr} {f:FE} {pos:Pos} (h:DE X a f):DE X (.UnaryOp .USub a pos) (dun e8 f):=.mk <| (pe_un un_neg h.go).weak fun σ H Q hh=>by
 obtain ⟨Hs,δ,r,S,En,e,K⟩:=hh
 unfold dun at e
 cases ef:f δ with
 | none=>rw [ef] at e;cases e
 | some rf=>
  rw [ef] at e
  refine ⟨Hs,δ,rf,S,En,ef,fun x Hs1 H1 W1 R1=>?_⟩
  have vw:=R1.view
  cases hv:rf.view with
  | int i=>
   rw [hv] at vw
   simp only [Option.bind,hv,e8] at e
   cases e
   exact ⟨i,vw.int,K _ Hs1 H1 W1 (shI _ _ _ _)⟩
  | _=>simp only [Option.bind,hv,e8] at e;cases e
end
end Ew
end
section
set_option Elab.async false
set_option linter.all false
set_option maxRecDepth 100000
namespace L2
open PySem PySem.Spec PyProof.Rows
section
variable {X:Cx}
def tRev (K:PySem.W.Frag) (te ts:TE):TE:=fun σ H Q=>te σ H fun x H1=>ts σ H1 fun st H2=>st=.int (-1)∧∃ a xs,x=.ref a∧SqL K H2 a xs∧∀ p,H2 p=none→Q (.ref p) (upd H2 p (.lst xs.reverse))
theorem pe_rev {e step:Expr} {te ts:TE} {p2 pos:Pos} (he:PE X e te) (hst:PE X step ts):PE X (.Subscript e (.Slice none none (some step) p2) pos) (tRev X.K te ts):=by
 intro pins s σ H Q I h
 refine Subscript_ (thn (he pins s σ H _ I h) fun v s1 ⟨x,H1,I1,r1,q1⟩=>?_)
 refine wpAny_Slice ?_
 rw [evalPart_none]
 refine wpAny_pure (wpAny_pure ?_)
 rw [evalPart_some]
 refine thn (hst pins s1 σ H1 _ I1 q1) fun u s2 ⟨y,H2,I2,r2,e2,a,xs,ex,hx,q2⟩=>?_
 subst e2
 subst ex
 cases r1
 obtain ⟨t,rfl⟩:=r2
 have I4:Inv X pins σ H2 { s2 with heap:=s2.heap.push { cls:=.type "slice",data:=.fields #[.none,.none,.int (-1) t] } }:=I2.kept (t':=s2.toks) fun b ob q=>Heap.get?_push_of_some _ q
 obtain ⟨its,r,ht,hz⟩:=I4.list hx
 have hlen:=r.length
 show wpAny (model X.prog X.w) X.A (subscriptTail e (.Slice none none (some step) p2) (.ref a) (.ref s2.heap.objs.size)) (EP X pins σ Q) X.xe { s2 with heap:=s2.heap.push { cls:=.type "slice",data:=.fields #[.none,.none,.int (-1) t] } }
 refine tail_any (ops:=[.ref a,.ref s2.heap.objs.size]) ht.isList.typeIs slot_list_getitem.lookup ?_ (by with_unfolding_all rfl)
 refine wpAny_getItem_list_slice ht.isList (Heap.IsSliceOf.new ..) .none .none (.int (-1) t) (by simp) ?_ (by rw [List.size_toArray] <;> omega)
 rw [PySem.W.krv_pick]
 refine ⟨.ref _,_,I4.laid (t':=s2.toks) (o:=.lst xs.reverse) (fun b ob q=>Heap.get?_push_of_some _ q) (Nat.le_refl _) ?_,rfl,q2 _ (I4.hok.fresh (Nat.le_refl _))⟩
 exact ⟨by rw [List.length_reverse];exact hz,its.reverse,0,r.reverse,Heap.get?_push_size _ rfl⟩
end
end L2
namespace Ew
open PySem PySem.Spec L2
section
variable {X:Cx}
def drev (f fs:FE):FE:=fun δ=>(f δ).bind fun r=>(fs δ).bind fun s=>match r.view,s with
 | .lst ds,.sh (.int (-1))=>some (.fr ds.reverse)
 | _,_=>none
theorem de_rev {e step:Expr} {f fs:FE} {p2 pos:Pos} (he:DE X e f) (hst:DE X step fs):DE X (.Subscript e (.Slice none none (some step) p2) pos) (drev f fs):=.mk <|
 (pe_rev he.go hst.go).weak fun σ H Q ⟨Hs,δ,r,S,En,e,K⟩=>by
  unfold drev at e
  cases ef:f δ with
  | none=>rw [ef] at e;cases e
  | some rf=>
   cases es:fs δ with
   | none=>rw [ef,es] at e;cases e
   | some rs=>
    rw [ef,es] at e
    refine ⟨Hs,δ,rf,S,En,ef,fun x Hs1 H1 W1 R1=>⟨Hs1,δ,rs,W1.sub,En.mono W1,es,fun y Hs2 H2 W2 R2=>?_⟩⟩
    have vw:=(R1.mono W2).view
    cases hv:rf.view with
    | lst ds=>
     rw [hv] at vw
     match rs,e,R2 with
     | .sh (.int k),e,R2=>
      simp only [Option.bind,hv] at e
      have R2:Rep Hs2 (.int k) y:=R2
      unfold Rep at R2
      by_cases hk:k=-1
      ·
       subst hk
       cases e
       obtain ⟨a,vs,rfl,h1,h2⟩:=vw.lst W2.sub
       have W12:=W1.trans W2
       exact ⟨R2,a,vs,rfl,.of h1,fun p hp=>K _ Hs2 _ (W12.trans (.fresh W2.sub hp)) ⟨p,_,rfl,W12.keep.free hp,W2.sub.free hp,aF,h2.reverse⟩⟩
      ·
       exfalso
       revert e
       split
       ·
        rename_i h1 h2
        simp at h2
        omega
       ·
        intro z;cases z
     | .sh .non,e,_=>simp only [Option.bind,hv] at e;cases e
     | .sh (.bl _),e,_=>simp only [Option.bind,hv] at e;cases e
     | .sh (.str _),e,_=>simp only [Option.bind,hv] at e;cases e
     | .sh (.lst _),e,_=>simp only [Option.bind,hv] at e;cases e
     | .sh (.tup _),e,_=>simp only [Option.bind,hv] at e;cases e
     | .sh (.obj _ _),e,_=>simp only [Option.bind,hv] at e;cases e
     | .fr _,e,_=>simp only [Option.bind,hv] at e;cases e
     | .bw _,e,_=>simp only [Option.bind,hv] at e;cases e
    | _=>simp only [Option.bind,hv] at e;cases e
inductive TyD (K:PySem.W.Frag):D→Value→Prop where
 | non:TyD K .non (.type "NoneType")
 | bl (x:Bool):TyD K (.bl x) (.type "bool")
 | int (i:Int):TyD K (.int i) (.type "int")
 | str (x:Str):TyD K (.str x) (.type "str")
 | lst (xs:List D):TyD K (.lst xs) (.type "list")
 | tup (xs:List D):TyD K (.tup xs) (.type "tuple")
 | obj {C:Addr} (fs:List (Str×D)) (cl:Cls K C) (ha:PySem.W.findIn K (.ref C) "__class__" = some (some (.builtin "object.__class__")))
  (hn:PySem.W.specialIn K (.builtin "object.__class__") "__get__" = some (some (.builtin "getset_descriptor.__get__"))) (htk:PySem.W.takesIn K (.builtin "object.__class__")=some true)
  (hm:PySem.W.mroIn K C (.type "object")=some true):TyD K (.obj C fs) (.ref C)
theorem TyD.of {K:PySem.W.Frag} {Hs H:Hp} {d:D} {t:Value} {v:V} (S:aN Hs H) (ty:TyD K d t) (h:View Hs H d v):iB K H v t:=by
 cases ty with
 | non=>rw [h.non];exact .non
 | bl x=>rw [h.bl];exact .bl x
 | int i=>rw [h.int];exact .int i
 | str x=>rw [h.str];exact .str x
 | lst xs=>obtain ⟨a,vs,rfl,h1,_⟩:=h.lst S;exact .lst h1
 | tup xs=>obtain ⟨a,vs,rfl,h1,_⟩:=h.tup S;exact .tup h1
 | obj fs cl ha hn htk hm=>obtain ⟨a,dx,fvs,rfl,h1,_⟩:=h.obj S;exact .ins h1 cl ha hn htk hm
theorem RelV.fn {x:V} {u v:Value} (hx:(∃ n,x=.ty n)∨∃ a,x=.ref a) (a:RelV x u) (b:RelV x v):u=v:=by
 rcases hx with ⟨n,rfl⟩ | ⟨n,rfl⟩
 ·
  cases (show u=Value.type n from a);cases (show v=Value.type n from b);rfl
 ·
  cases (show u=Value.ref n from a);cases (show v=Value.ref n from b);rfl
theorem c_isinst:cz X (.builtin "isinstance") (fun xs H Q=>∃ x c cu t b,xs=[x,c]∧((∃ n,c=.ty n)∨∃ a,c=.ref a)∧RelV c cu∧iB X.K H x t∧PySem.W.kitOne X.K t cu=some b∧Q (.bl b) H):=by
 intro pins s σ H xs us Q I rv h
 obtain ⟨x,c,cu,t,b,rfl,hc,rc,ty,hk,q⟩:=h
 obtain ⟨u,u2,rfl,ru,ru2⟩:=rv.two
 cases RelV.fn hc rc ru2
 exact isinst_ok I ru ty hk fun tk=>⟨.bl b,H,I.tok tk,rfl,q⟩
def av (ans:D→Option Bool) (f:FE):FE:=fun δ=>(f δ).bind fun r=>(ans r.view).map fun b=>.sh (.bl b)
theorem fy {e c:Expr} {f:FE} {cv:V} {cu:Value} {ans:D→Option Bool} {p pos:Pos} (he:DE X e f) (hc:PE X c (tC cv)) (hcv:(∃ n,cv=.ty n)∨∃ a,cv=.ref a) (rc:RelV cv cu)
  (hk:∀ d b,ans d=some b→∃ t,TyD X.K d t∧PySem.W.kitOne X.K t cu=some b) (hg:Gl X "isinstance") (hm:X.mg "isinstance" = none)
  (hs:starEach [e,c] X.env=(false,eval e X.env)::starEach [c] X.env:=by rfl) (hs2:starEach [c] X.env=(false,eval c X.env)::starEach [] X.env:=by rfl) (hpl:(backTo pos (starEach [c] X.env)).any (·.1)=false:=by rfl) :
  DE X (.Call (.Name "isinstance" p) [e,c] [] pos) (av ans f):=.mk <|
 (gj c_isinst hg hm PyProof.Rows.boot_isinstance (ce he.go (ce hc eE hs2) hs) (he:=hs) (hpl:=hpl)).weak fun σ H Q ⟨Hs,δ,r,S,En,e,K⟩=>by
  unfold av at e
  cases ef:f δ with
  | none=>rw [ef] at e;cases e
  | some rf=>
   rw [ef] at e
   replace e:(ans rf.view).map (fun b=>R.sh (.bl b))=some r:=e
   cases ea:ans rf.view with
   | none=>rw [ea] at e;cases e
   | some b=>
    rw [ea] at e
    cases e
    refine ⟨Hs,δ,rf,S,En,ef,fun x Hs1 H1 W1 R1=>?_⟩
    obtain ⟨t,ty,hkk⟩:=hk _ _ ea
    exact ⟨x,cv,cu,t,b,rfl,hcv,rc,ty.of W1.sub R1.view,hkk,K _ Hs1 H1 W1 (shB _ _ _ _)⟩
def lZ (i j:Nat) (fa fb:FE):FS:=fun δ=>(fa δ).bind fun r=>(fb δ).bind fun t=>r.ent.bind fun e1=>t.ent.bind fun e2=>some (.nx ((δ.set i (some e1)).set j (some e2)))
theorem ds_par {i j:Nat} {x y:Str} {a b:Expr} {fa fb:FE} {px py pt pos:Pos} {kt k2 pt2} (hc:X.calm=true) (hN:X.N.Nodup) (hi:X.N[i]?=some x) (hj:X.N[j]?=some y) (hij:i≠j)
  (hx:X.env.scope.names.lookup x=some .local) (hy:X.env.scope.names.lookup y=some .local) (ha:DE X a fa) (hb:DE X b fb)
  (hw:swappedStores [.Tuple [.Name x px,.Name y py] kt pt] (.Tuple [a,b] k2 pt2) X.env=pure (some [x,y]))
  (hs:swapsWithSole [.Tuple [.Name x px,.Name y py] kt pt] (.Tuple [a,b] k2 pt2) pos.line X.env=pure false:=by rfl)
  (hs1:starEach [a,b] X.env=(false,eval a X.env)::starEach [b] X.env:=by rfl) (hs2:starEach [b] X.env=(false,eval b X.env)::starEach [] X.env:=by rfl) :
  DS X (.Assign [.Tuple [.Name x px,.Name y py] kt pt] (.Tuple [a,b] k2 pt2) pos) (lZ i j fa fb):=.mk fun H0 Hs0=>
 (ps_par hc hN hi hj hij hx hy (ce ha.go (ce hb.go eE hs2) hs1) hw hs).weak fun D σ H ⟨Hs,δ,res,W,S,e,P⟩=>by
  unfold lZ at e
  cases ea:fa δ with
  | none=>rw [ea] at e;cases e
  | some r=>
   cases eb:fb δ with
   | none=>rw [ea,eb] at e;cases e
   | some t=>
    rw [ea,eb] at e
    replace e:(r.ent.bind fun e1=>t.ent.bind fun e2=>some (Res.nx ((δ.set i (some e1)).set j (some e2))))=some res:=e
    cases er:r.ent with
    | none=>rw [er] at e;cases e
    | some e1=>
     cases et:t.ent with
     | none=>rw [er,et] at e;cases e
     | some e2=>
      rw [er,et] at e
      cases e
      refine ⟨Hs,δ,r,W.sub,S.ent,ea,fun v Hs1 H1 W1 R1=>⟨Hs1,δ,t,W1.sub,S.ent.mono W1,eb,fun u Hs2 H2 W2 R2=>?_⟩⟩
      refine ⟨v,u,rfl,?_⟩
      have W12:=W1.trans W2
      have S2:=S.set (i:=i) W W12 (R1.mono W2) er
      have S3:StR H0 Hs2 H2 ((δ.set i (some e1)).set j (some e2)) ((σ.set i (some v)).set j (some u)):=by
       have R2':dq H1 Hs2 H2 t u:=R2
       cases t with
       | sh d=>
        cases et
        exact S2.set (i:=j) (r:=.sh d) (W.trans W12) (.refl W2.sub) R2 rfl
       | fr ds=>
        cases et
        obtain ⟨p,vs,ep,n1,m,h1,h2⟩:=R2'
        have S1:=S.set (i:=i) W W1 R1 er
        exact S1.set (i:=j) (r:=.fr ds) (W.trans W1) W2 ⟨p,vs,ep,n1,m,h1,h2⟩ rfl
       | bw ds=>cases et
      exact P _ Hs2 H2 (W.trans W12) S3
def sasg (f:FE) (g:GD):FS:=fun δ=>(f δ).bind fun r=>match r with
 | .sh d=>(g d δ).map .nx
 | _=>none
theorem ds_asg {tg e:Expr} {f:FE} {ks:List Nat} {g:GD} {pos:Pos} (he:DE X e f) (hg:DG X tg ks g) (hs:swapsWithSole [tg] e pos.line X.env=pure false:=by rfl) (hw:swappedStores [tg] e X.env=pure none:=by rfl)
  (h1:(assignEach [tg] X.env).map (·.2)=[assign tg X.env]:=by rfl):DS X (.Assign [tg] e pos) (sasg f g):=.mk fun H0 Hs0=>
 (ps_asg he.go hg.go hs hw h1).weak fun D σ H ⟨Hs,δ,res,W,S,e,P⟩=>by
  unfold sasg at e
  cases ea:f δ with
  | none=>rw [ea] at e;cases e
  | some r=>
   rw [ea] at e
   refine ⟨Hs,δ,r,W.sub,S.ent,ea,fun v Hs1 H1 W1 R1=>?_⟩
   match r,e,R1 with
   | .sh d,e,R1=>
    replace e:(g d δ).map Res.nx=some res:=e
    cases eg:g d δ with
    | none=>rw [eg] at e;cases e
    | some δ'=>
     rw [eg] at e
     cases e
     have S1:=S.mono W1
     exact ⟨Hs1,δ,d,δ',W1.sub,S1.len,R1,eg,fun σ' sr=>P σ' Hs1 H1 (W.trans W1) (sr.st S1)⟩
end
end Ew
end
section
set_option Elab.async false
set_option linter.all false
set_option maxRecDepth 100000
namespace L2
open PySem PySem.Spec PyProof.Rows
section
variable {X:Cx} {a b c d:Expr} {ta tb tc td:TE} {pos:Pos}
def tChain3 (r r' r'':R2) (ta tb tc td:TE):TE:=fun σ H Q=>ta σ H fun x H1=>tb σ H1 fun y H2=>r x y H2 fun z H3=>∃ k,z=.bl k∧
 (if k=true then tc σ H3 fun w H4=>r' y w H4 fun z2 H5=>∃ k2,z2=.bl k2∧(if k2=true then td σ H5 fun w2 H6=>r'' w w2 H6 Q else Q (.bl false) H5) else Q (.bl false) H3)
theorem pe_chain3 {op op' op'':CmpOp} {r r' r'':R2} (ho:OpR X (compareOp op) r) (ho':OpR X (compareOp op') r') (ho'':OpR X (compareOp op'') r'') (ha:PE X a ta) (hb:PE X b tb) (hc:PE X c tc) (hd:PE X d td)
  (hm:lastMarks [op,op',op''] [b,c,d]=false:=by with_unfolding_all rfl):PE X (.Compare a [op,op',op''] [b,c,d] pos) (tChain3 r r' r'' ta tb tc td):=by
 intro pins s σ H Q I h
 refine Compare_chain (thn (ha pins s σ H _ I h) fun v s1 ⟨x,H1,I1,r1,q1⟩=>chain_link (thn (hb pins s1 σ H1 _ I1 q1) fun u s2 ⟨y,H2,I2,r2,q2⟩=>
  thn (ho pins s2 σ H2 x y v u _ I2 r1 r2 q2) fun d s3 ⟨z,H3,I3,r3,k,e,q3⟩=>?_)) hm
 subst e
 cases r3
 refine wpAny_truthy_bool ?_
 cases k with
 | false=>exact ite_ff ⟨.bl false,H3,I3,rfl,q3⟩
 | true=>
  refine ite_tt (chain_link (thn (hc pins s3 σ H3 _ I3 q3) fun w' s4 ⟨z',H4,I4,r4,q4⟩=>thn (ho' pins s4 σ H4 y z' u w' _ I4 r2 r4 q4) fun d2 s5 ⟨z2,H5,I5,r5,k2,e2,q5⟩=>?_))
  subst e2
  cases r5
  refine wpAny_truthy_bool ?_
  cases k2 with
  | false=>exact ite_ff ⟨.bl false,H5,I5,rfl,q5⟩
  | true=>exact ite_tt (chain_last (thn (hd pins s5 σ H5 _ I5 q5) fun w2 s6 ⟨z3,H6,I6,r6,q6⟩=>ho'' pins s6 σ H6 z' z3 w' w2 Q I6 r4 r6 q6))
end
end L2
namespace Ew
open PySem PySem.Spec L2
section
variable {X:Cx} {a b c d:Expr} {fa fb fc fd:FE} {pos:Pos} {o o' o'':D→D→Option R}
def iO (o o' o'':D→D→Option R) (fa fb fc fd:FE):FE:=fun δ=>(fa δ).bind fun a=>(fb δ).bind fun b=>(o a.view b.view).bind fun r=>match r with
 | .sh (.bl true)=>(fc δ).bind fun c=>(o' b.view c.view).bind fun r2=>match r2 with
  | .sh (.bl true)=>(fd δ).bind fun d=>o'' c.view d.view
  | .sh (.bl false)=>some (.sh (.bl false))
  | _=>none
 | .sh (.bl false)=>some (.sh (.bl false))
 | _=>none
theorem tD_chain3 {σ:St} {H:Hp} {Q:VK} (h:tD (iO o o' o'' fa fb fc fd) σ H Q):tChain3 (rD o) (rD o') (rD o'') (tD fa) (tD fb) (tD fc) (tD fd) σ H Q:=by
 obtain ⟨Hs,δ,r,S,En,e,K⟩:=h
 unfold iO at e
 cases ea:fa δ with
 | none=>simp only [ea] at e;cases e
 | some ra=>
  cases eb:fb δ with
  | none=>simp only [ea,eb] at e;cases e
  | some rb=>
   cases eo:o ra.view rb.view with
   | none=>simp only [ea,eb,eo,Option.bind] at e;cases e
   | some ro=>
    simp only [ea,eb,eo,Option.bind] at e
    refine ⟨Hs,δ,ra,S,En,ea,fun x Hs1 H1 W1 R1=>⟨Hs1,δ,rb,W1.sub,En.mono W1,eb,fun y Hs2 H2 W2 R2=>?_⟩⟩
    refine ⟨Hs2,ra.view,rb.view,ro,W2.sub,(R1.mono W2).view,R2.view,eo,fun v Hs3 H3 W3 R3=>?_⟩
    have W13:=W1.trans (W2.trans W3)
    match ro,e,R3 with
    | .sh (.bl false),e,R3=>
     cases e
     refine ⟨false,unB R3,?_⟩
     rw [if_neg Bool.false_ne_true]
     exact K _ Hs3 H3 W13 (shB _ _ _ _)
    | .sh (.bl true),e,R3=>
     refine ⟨true,unB R3,?_⟩
     rw [if_pos rfl]
     cases ec:fc δ with
     | none=>simp only [ec] at e;cases e
     | some rc=>
      cases eo2:o' rb.view rc.view with
      | none=>simp only [ec,eo2] at e;cases e
      | some ro2=>
       simp only [ec,eo2] at e
       refine ⟨Hs3,δ,rc,W3.sub,En.mono W13,ec,fun z Hs4 H4 W4 R4=>?_⟩
       refine ⟨Hs4,rb.view,rc.view,ro2,W4.sub,((R2.mono W3).mono W4).view,R4.view,eo2,fun v2 Hs5 H5 W5 R5=>?_⟩
       have W15:=W13.trans (W4.trans W5)
       match ro2,e,R5 with
       | .sh (.bl false),e,R5=>
        cases e
        refine ⟨false,unB R5,?_⟩
        rw [if_neg Bool.false_ne_true]
        exact K _ Hs5 H5 W15 (shB _ _ _ _)
       | .sh (.bl true),e,R5=>
        refine ⟨true,unB R5,?_⟩
        rw [if_pos rfl]
        cases ed:fd δ with
        | none=>simp only [ed] at e;cases e
        | some rd=>
         simp only [ed] at e
         refine ⟨Hs5,δ,rd,W5.sub,En.mono W15,ed,fun z2 Hs6 H6 W6 R6=>?_⟩
         refine ⟨Hs6,rc.view,rd.view,r,W6.sub,((R4.mono W5).mono W6).view,R6.view,e,fun v3 Hs7 H7 W7 R7=>?_⟩
         exact K v3 Hs7 H7 (W15.trans (W6.trans W7)) (R7.older (W15.keep.trans W6.keep))
theorem de_chain3 {op op' op'':CmpOp} (ho:OpR X (compareOp op) (rD o)) (ho':OpR X (compareOp op') (rD o')) (ho'':OpR X (compareOp op'') (rD o'')) (ha:DE X a fa) (hb:DE X b fb) (hc:DE X c fc) (hd:DE X d fd)
 (hm:lastMarks [op,op',op''] [b,c,d]=false:=by with_unfolding_all rfl):DE X (.Compare a [op,op',op''] [b,c,d] pos) (iO o o' o'' fa fb fc fd):=.mk <| (pe_chain3 ho ho' ho'' ha.go hb.go hc.go hd.go hm).weak fun _ _ _=>tD_chain3
end
end Ew
end
section
set_option Elab.async false
set_option linter.all false
set_option maxRecDepth 100000
namespace Ew
open PySem PySem.Spec L2
structure Df (K:PySem.W.Frag) (mg:Str→Option Value) (x qual:Str) (st:Stmt) (ps:List Str) (f:Addr) (fd:FuncData):Prop where
 fn:Fun K x qual st f fd
 mgx:mg x=some (.ref f)
 bd:Binds K fd ps []
section
variable {X:Cx} {e:Expr} {es:List Expr} {fr:DSt→Option (List R)} {x:Str} {p pos:Pos} {id T:String}
theorem de_u {qual:Str} {st:Stmt} {ps:List Str} {f:Addr} {fd:FuncData} {k n:Nat} {m:List D→Option D} (d:Df X.K X.mg x qual st ps f fd) (G:dY X.prog X.w X.K X.mg X.base CX0 k f fd ps (spD n m)) (hr:bC k X.A) (ha:DA X (e::es) fr)
 (hg:Gl X x:=by rfl) (hdb:(x==("__debug__" : Str))=false:=by decide) (he:starEach (e::es) X.env=(false,eval e X.env)::starEach es X.env:=by exact bP rfl) (hpl:(backTo pos (starEach es X.env)).any (·.1)=false:=by rfl) :
 DE X (.Call (.Name x p) (e::es) [] pos) (ao n m fr):=.mk <| (mK (E:=E0) G hr hg d.mgx d.fn.kp d.bd .nil lU ha.go hdb he hpl).weak fun _ _ _=>tD_call
theorem de_m {C:Addr} {n:Nat} {m:List D→Option D} {fo:FE} (h:PE X e (tMeth C x (spD n m) [] E0 (tD fo) (tDA fr))):DE X e (bQ C x n m fo fr):=.mk <| h.weak fun _ _ _=>tD_meth
theorem de_m0 {C:Addr} {n:Nat} {m:List D→Option D} {fo:FE} (h:PE X e (tMeth C x (spD n m) [] E0 (tD fo) tNil)):DE X e (bQ C x n m fo ah):=.mk <| h.weak fun σ H Q hq=>by
 obtain ⟨Hs,δ,r,S,En,e,K⟩:=tD_meth (E:=E0) hq
 refine ⟨Hs,δ,r,S,En,e,fun x0 Hs1 H1 W1 R1=>?_⟩
 obtain ⟨a,dx,fs,e1,h1,h2,Hs2,δ2,rs,S2,En2,e2,K2⟩:=K x0 Hs1 H1 W1 R1
 refine ⟨a,dx,fs,e1,h1,h2,?_⟩
 cases e2
 exact K2 [] Hs2 H1 (.refl S2) rfl
theorem de_b1 {o:D→Option R} (hc:cz X (.builtin id) (rC1 o)) (hv:bootBuiltins x=some (.builtin id)) (hm:X.mg x=none) (ha:DA X [e] fr) (hg:Gl X x:=by rfl) (hn:x≠"__name__":=by decide) (hdb:(x==("__debug__" : Str))=false:=by decide)
 (he:starEach [e] X.env=(false,eval e X.env)::starEach [] X.env:=by rfl):DE X (.Call (.Name x p) [e] [] pos) (aA o fr):=.mk <| (gj hc hg hm hv ha.go hn hdb he rfl).weak fun _ _ _=>nU
theorem gu {e2:Expr} {o:D→D→Option R} (hc:cz X (.builtin id) (rC2 o)) (hv:bootBuiltins x=some (.builtin id)) (hm:X.mg x=none) (ha:DA X [e,e2] fr) (hg:Gl X x:=by rfl) (hn:x≠"__name__":=by decide) (hdb:(x==("__debug__" : Str))=false:=by decide)
 (he:starEach [e,e2] X.env=(false,eval e X.env)::starEach [e2] X.env:=by rfl) (hpl:(backTo pos (starEach [e2] X.env)).any (·.1)=false:=by rfl):DE X (.Call (.Name x p) [e,e2] [] pos) (aY o fr):=.mk <| (gj hc hg hm hv ha.go hn hdb he hpl).weak fun _ _ _=>tD_call2
theorem de_t1 {o:D→Option R} (hc:cz X (.type T) (rC1 o)) (hv:bootBuiltins x=some (.type T)) (hm:X.mg x=none) (ha:DA X [e] fr) (hg:Gl X x:=by rfl) (hn:x≠"__name__":=by decide) (hdb:(x==("__debug__" : Str))=false:=by decide)
 (he:starEach [e] X.env=(false,eval e X.env)::starEach [] X.env:=by rfl):DE X (.Call (.Name x p) [e] [] pos) (aA o fr):=.mk <| (gM hc hg hm hv ha.go hn hdb he rfl).weak fun _ _ _=>nU
end
def isC (C:Addr):Addr→Bool:=fun a=>a==C
theorem isC_of {C a:Addr} (h:isC C a=true):a=C:=by unfold isC at h;simpa using h
end Ew
namespace Ew
def dA:D→Option Bool
 | .int _=>some true
 | .bl _=>some true
 | .obj _ _=>none
 | _=>some false
def is_bool:D→Option Bool
 | .bl _=>some true
 | .obj _ _=>none
 | _=>some false
def cn:D→Option Bool
 | .lst _=>some true
 | .obj _ _=>none
 | _=>some false
def eH:D→Option Bool
 | .tup _=>some true
 | .obj _ _=>none
 | _=>some false
end Ew
end
section
set_option Elab.async false
set_option linter.all false
set_option maxRecDepth 100000
namespace Ew
open PySem PySem.Spec L2
section
variable {δ:DSt} {fa fb fc f:FE} {fr:DSt→Option (List R)} {t u:DSt→Option Bool} {F G:FS}
@[simp] theorem cK (i:Nat):ab i δ=match δ[i]? with
 | some (some (.sh d))=>some (.sh d)
 | some (some (.ow ds))=>some (.bw ds)
 | _=>none:=rfl
@[simp] theorem kO (d:D):ac d δ=some (.sh d):=rfl
@[simp] theorem jq (o:D→D→Option R):ad o fa fb δ=(fa δ).bind fun a=>(fb δ).bind fun b=>o a.view b.view:=rfl
@[simp] theorem dun_e (o:D→Option R):dun o fa δ=(fa δ).bind fun a=>o a.view:=rfl
@[simp] theorem cg:aj f δ=(f δ).bind R.bool:=rfl
@[simp] theorem dchain_e (o o':D→D→Option R):cS o o' fa fb fc δ=(fa δ).bind fun a=>(fb δ).bind fun b=>(o a.view b.view).bind fun r=>match r with
 | .sh (.bl true)=>(fc δ).bind fun c=>o' b.view c.view
 | .sh (.bl false)=>some (.sh (.bl false))
 | _=>none:=rfl
@[simp] theorem dchain3_e {fd:FE} (o o' o'':D→D→Option R):iO o o' o'' fa fb fc fd δ=(fa δ).bind fun a=>(fb δ).bind fun b=>(o a.view b.view).bind fun r=>match r with
 | .sh (.bl true)=>(fc δ).bind fun c=>(o' b.view c.view).bind fun r2=>match r2 with
  | .sh (.bl true)=>(fd δ).bind fun d=>o'' c.view d.view
  | .sh (.bl false)=>some (.sh (.bl false))
  | _=>none
 | .sh (.bl false)=>some (.sh (.bl false))
 | _=>none:=rfl
@[simp] theorem dtAnd_e:fv t u δ=(t δ).bind fun c=>if c=true then u δ else some false:=rfl
@[simp] theorem mX:bo t u δ=(t δ).bind fun c=>if c=true then some true else u δ:=rfl
@[simp] theorem gR:aU t δ=(t δ).map (!·):=rfl
@[simp] theorem dand_e:e7 fa fb δ=(fa δ).bind fun r=>match r with
 | .sh (.bl true)=>fb δ
 | .sh (.bl false)=>some (.sh (.bl false))
 | _=>none:=rfl
@[simp] theorem dor_e:dor fa fb δ=(fa δ).bind fun r=>match r with
 | .sh (.bl true)=>some (.sh (.bl true))
 | .sh (.bl false)=>fb δ
 | _=>none:=rfl
@[simp] theorem dnot_e:dnot fa δ=(fa δ).bind fun r=>match r with
 | .sh (.bl b)=>some (.sh (.bl (!b)))
 | _=>none:=rfl
@[simp] theorem dif_e:dif t fa fb δ=(t δ).bind fun k=>if k=true then fa δ else fb δ:=rfl
@[simp] theorem dQ:ah δ=some []:=rfl
@[simp] theorem aP:aa fa fr δ=(fa δ).bind fun r=>(fr δ).bind fun rs=>some (r::rs):=rfl
@[simp] theorem dlst_e:cA fr δ=(fr δ).bind fun rs=>if de rs=true∧rs.length≤big then some (.fr (rs.map R.view)) else none:=rfl
@[simp] theorem dtup_e:b6 fr δ=(fr δ).bind fun rs=>if de rs=true∧rs.length≤big then some (.sh (.tup (rs.map R.view))) else none:=rfl
@[simp] theorem iP (n:Nat) (m:List D→Option D):ao n m fr δ=(fr δ).bind (iF n m):=rfl
@[simp] theorem dcallF_e (n:Nat) (m:List D→Option (List D)):dcallF n m fr δ=(fr δ).bind (mcallF n m):=rfl
@[simp] theorem gS (n:Nat) (m:List D→Option D) (rs:List R):iF n m rs=(m (rs.map R.view)).bind fun d=>if rs.length=n∧(de rs=true∨d.flat=true) then some (.sh d) else none:=rfl
@[simp] theorem mcallF_e (n:Nat) (m:List D→Option (List D)) (rs:List R):mcallF n m rs=(m (rs.map R.view)).bind fun d=>if rs.length=n∧de rs=true then some (.fr d) else none:=rfl
@[simp] theorem kP (ok:Addr→Bool) (x:Str):cT ok x fa δ=(fa δ).bind fun r=>match r.view with
 | .obj C fs=>if ok C=true then (fs.lookup x).map .sh else none
 | _=>none:=rfl
@[simp] theorem dmeth_e (C:Addr) (name:Str) (n:Nat) (m:List D→Option D):bQ C name n m fa fr δ=(fa δ).bind fun r=>match r.view with
 | .obj C' fs=>if C'=C∧fs.lookup name=none then (fr δ).bind fun rs=>iF n m (r::rs) else none
 | _=>none:=rfl
@[simp] theorem iQ (o:D→Option R):aA o fr δ=(fr δ).bind fun rs=>match rs with
 | [r]=>o r.view
 | _=>none:=rfl
@[simp] theorem kQ (o:D→D→Option R):aY o fr δ=(fr δ).bind fun rs=>match rs with
 | [r,s]=>o r.view s.view
 | _=>none:=rfl
@[simp] theorem bn (d:D):(R.sh d).view=d:=rfl
@[simp] theorem view_fr (ds:List D):(R.fr ds).view=.lst ds:=rfl
@[simp] theorem mY (ds:List D):(R.bw ds).view=.lst ds:=rfl
@[simp] theorem ej (d:D):(R.sh d).isBw=false:=rfl
@[simp] theorem isBw_fr (ds:List D):(R.fr ds).isBw=false:=rfl
@[simp] theorem isBw_bw (ds:List D):(R.bw ds).isBw=true:=rfl
@[simp] theorem bool_bl (b:Bool):(R.sh (.bl b)).bool=some b:=rfl
@[simp] theorem ent_sh (d:D):(R.sh d).ent=some (.sh d):=rfl
@[simp] theorem ent_fr (ds:List D):(R.fr ds).ent=some (.ow ds):=rfl
@[simp] theorem n9:de []=true:=rfl
@[simp] theorem ma (r:R) (rs:List R):de (r::rs)=(!r.isBw&&de rs):=rfl
@[simp] theorem flat_bl (b:Bool):(D.bl b).flat=true:=rfl
@[simp] theorem flat_int (b:Int):(D.int b).flat=true:=rfl
@[simp] theorem flat_non:D.non.flat=true:=rfl
@[simp] theorem sret_e:aL f δ=(f δ).bind fun r=>if r.isBw=true then none else some (.rt r):=rfl
@[simp] theorem sretv_e (i:Nat):fw i δ=match δ[i]? with
 | some (some (.ow ds))=>some (.rt (.fr ds))
 | some (some (.sh d))=>some (.rt (.sh d))
 | some (some (.nw d))=>some (.rn d)
 | _=>none:=rfl
@[simp] theorem dX:sif t F G δ=(t δ).bind fun b=>if b=true then F δ else G δ:=rfl
@[simp] theorem ii:ar F G δ=(F δ).bind (Res.thn G):=rfl
@[simp] theorem thn_nx (δ:DSt):Res.thn G (.nx δ)=G δ:=rfl
@[simp] theorem thn_rt (r:R):Res.thn G (.rt r)=some (.rt r):=rfl
@[simp] theorem thn_rn (d:D):Res.thn G (.rn d)=some (.rn d):=rfl
@[simp] theorem sskip_e:aD δ=some (.nx δ):=rfl
@[simp] theorem sset_e (i:Nat):sset i f δ=(f δ).bind fun r=>r.ent.bind fun en=>some (.nx (δ.set i (some en))):=rfl
@[simp] theorem ff (i:Nat):dw i F δ=F (frz i δ):=rfl
@[simp] theorem run_e (k:Nat) (F:FS) (ds:List D):Ew.run k F ds=match F (ds.map (fun d=>some (.sh d))++List.replicate (k-ds.length) none) with
 | some (.rt r)=>if r.isBw=true then none else some r.view
 | some (.nx _)=>some .non
 | some (.rn d)=>some d
 | _=>none:=rfl
@[simp] theorem isC_self (a:Addr):isC a a=true:=by unfold isC;simp
@[simp] theorem oAdd_ii (i j:Int):aZ (.int i) (.int j)=some (.sh (.int (i+j))):=rfl
@[simp] theorem oSub_ii (i j:Int):oSub (.int i) (.int j)=some (.sh (.int (i-j))):=rfl
@[simp] theorem oLt_ii (i j:Int):oLt (.int i) (.int j)=some (.sh (.bl (decide (i<j)))):=rfl
@[simp] theorem oLe_ii (i j:Int):oLe (.int i) (.int j)=some (.sh (.bl (decide (i≤j)))):=rfl
@[simp] theorem oGt_ii (i j:Int):oGt (.int i) (.int j)=some (.sh (.bl (decide (j<i)))):=rfl
@[simp] theorem oGe_ii (i j:Int):oGe (.int i) (.int j)=some (.sh (.bl (decide (j≤i)))):=rfl
@[simp] theorem oLen_l (xs:List D):bJ (.lst xs)=some (.sh (.int xs.length)):=rfl
@[simp] theorem oList_l (xs:List D):iH (.lst xs)=some (.fr xs):=rfl
@[simp] theorem oList_t (xs:List D):iH (.tup xs)=some (.fr xs):=rfl
@[simp] theorem oMin2_ii (i j:Int):dh (.int i) (.int j)=some (.sh (.int (if j<i then j else i))):=rfl
@[simp] theorem oMax2_ii (i j:Int):eG (.int i) (.int j)=some (.sh (.int (if j>i then j else i))):=rfl
@[simp] theorem jK (xs:List D) (i:Int):oIx (.lst xs) (.int i)=(atI xs i).map .sh:=rfl
@[simp] theorem oIx_t (xs:List D) (i:Int):oIx (.tup xs) (.int i)=(atI xs i).map .sh:=rfl
@[simp] theorem dcomp_e (fi:DSt→Option (List D)) (g:GD) (c:DSt→Option Bool) (fe:FE) (m:Nat) (ix:List Nat):bD fi g c fe m ix δ=(fi δ).bind fun items=>if items.length≤big then (cC g c fe (dIn m ix δ) items).map .fr else none:=rfl
@[simp] theorem eu:aO f δ=(f δ).bind fun r=>if r.isBw=true then none else match r.view with
 | .lst ds=>some ds
 | _=>none:=rfl
@[simp] theorem cyes_e:cJ δ=some true:=rfl
theorem bW (g:GD) (c:DSt→Option Bool) (fe:FE) (δ:DSt) {α:Type} (enc:α→D) (p:α→Bool) (out:α→D) (xs:List α)
  (h:∀ x∈xs,∃ δ1,g (enc x) δ=some δ1∧c δ1=some (p x)∧(p x=true→∃ r,fe δ1=some r∧r.isBw=false∧r.view=out x)) :
  cC g c fe δ (xs.map enc)=some ((xs.filter p).map out):=by
 induction xs with
 | nil=>rfl
 | cons x xs ih=>
  obtain ⟨δ1,h1,h2,h3⟩:=h x List.mem_cons_self
  have ih:=ih fun y hy=>h y (List.mem_cons_of_mem _ hy)
  rw [List.map_cons]
  unfold cC
  rw [h1]
  show ((c δ1).bind fun b=>if b=true then (fe δ1).bind fun r1=>if r1.isBw=true then none else (cC g c fe δ (xs.map enc)).bind fun t=>some (r1.view::t) else cC g c fe δ (xs.map enc))=_
  rw [h2]
  show (if p x=true then (fe δ1).bind fun r1=>if r1.isBw=true then none else (cC g c fe δ (xs.map enc)).bind fun t=>some (r1.view::t) else cC g c fe δ (xs.map enc))=_
  by_cases hp:p x=true
  ·
   obtain ⟨r,e1,e2,e3⟩:=h3 hp
   rw [if_pos hp,e1,ih]
   simp [e2,e3,hp,List.filter_cons]
  ·
   rw [if_neg hp,ih]
   simp [hp,List.filter_cons]
theorem eU (i:Int):okD (.int i)=true:=by unfold okD;simp [D.plain,D.py,PyData.canLay0,PyData.depth]
theorem ky (i j:Int):eqP (.int i) (.int j)=decide (i=j):=by unfold eqP;simp [D.py,PyData.eqv];rfl
@[simp] theorem oEq_ii (i j:Int):oEq (.int i) (.int j)=some (.sh (.bl (decide (i=j)))):=by unfold oEq;rw [if_pos ⟨eU i,eU j⟩,ky]
@[simp] theorem oNe_ii (i j:Int):oNe (.int i) (.int j)=some (.sh (.bl (!decide (i=j)))):=by unfold oNe;rw [if_pos ⟨eU i,eU j⟩,ky]
theorem oa (ns:List Int):pys (ns.map .int)=ns.map PyData.int:=by rw [fP,List.map_map];rfl
theorem ij:∀ ds:List D,gr ds=ds.all D.plain
 | []=>by unfold gr;rfl
 | d::ds=>by unfold gr;rw [ij ds];rfl
theorem fg:∀ ds:List PyData,PyData.canLayAll0 ds=ds.all PyData.canLay0
 | []=>by unfold PyData.canLayAll0;rfl
 | d::ds=>by unfold PyData.canLayAll0;rw [fg ds];rfl
theorem gv {k:Nat}:∀ {ds:List PyData},(∀ d∈ds,d.depth≤k)→PyData.depthAll ds≤k
 | [],_=>by unfold PyData.depthAll;exact Nat.zero_le _
 | d::ds,h=>by
  unfold PyData.depthAll
  exact Nat.max_le.mpr ⟨h d List.mem_cons_self,gv fun e he=>h e (List.mem_cons_of_mem _ he)⟩
theorem og {ds:List D} (h:∀ d∈ds,d.plain=true∧d.py.canLay0=true∧d.py.depth≤15):okD (.lst ds)=true:=by
 unfold okD
 rw [Bool.and_eq_true,Bool.and_eq_true]
 refine ⟨?_,?_,?_⟩
 ·
  unfold D.plain;rw [ij];exact List.all_eq_true.mpr fun d hd=>(h d hd).1
 ·
  unfold D.py PyData.canLay0;rw [fg,fP];exact List.all_eq_true.mpr fun d hd=>by
   obtain ⟨e,he,rfl⟩:=List.mem_map.mp hd
   exact (h e he).2.1
 ·
  unfold D.py PyData.depth
  refine decide_eq_true ?_
  have:=gv (k:=15) (ds:=pys ds) fun d hd=>by
   rw [fP] at hd
   obtain ⟨e,he,rfl⟩:=List.mem_map.mp hd
   exact (h e he).2.2
  omega
theorem iR (ns:List Int):okD (.lst (ns.map .int))=true:=og fun d hd=>by
 obtain ⟨i,_,rfl⟩:=List.mem_map.mp hd
 obtain ⟨a,b,c⟩:=bL (eU i)
 exact ⟨a,b,by unfold D.py PyData.depth;omega⟩
theorem jL:∀ (ns ms:List Int),PyData.eqvAll (ns.map PyData.int) (ms.map PyData.int)=decide (ns=ms)
 | [],[]=>by simp [PyData.eqvAll]
 | [],_::_=>by simp [PyData.eqvAll]
 | _::_,[]=>by simp [PyData.eqvAll]
 | n::ns,m::ms=>by
  simp only [List.map_cons,PyData.eqvAll,PyData.eqv,jL ns ms]
  by_cases h:n=m
  ·
   subst h;simp
  ·
   simp [h]
@[simp] theorem oEq_ints (ns ms:List Int):oEq (.lst (ns.map .int)) (.lst (ms.map .int))=some (.sh (.bl (decide (ns=ms)))):=by
 unfold oEq
 rw [if_pos ⟨iR ns,iR ms⟩]
 unfold eqP D.py PyData.eqv
 rw [oa,oa,jL]
theorem any_int (i:Int) (ns:List Int):((ns.map D.int).any fun y=>eqP y (.int i))=ns.contains i:=by
 rw [List.any_map,List.contains_eq_any_beq]
 congr 1
 funext y
 show eqP (.int y) (.int i)=(i==y)
 rw [ky,Bool.beq_eq_decide_eq]
 exact decide_eq_decide.mpr ⟨Eq.symm,Eq.symm⟩
@[simp] theorem oIn_ints (i:Int) (ns:List Int):oIn (.int i) (.lst (ns.map .int))=some (.sh (.bl (ns.contains i))):=by
 show (if okD (D.int i)=true∧okD (D.lst (List.map D.int ns))=true then some (R.sh (D.bl ((ns.map D.int).any fun y=>eqP y (D.int i)))) else none)=_
 rw [if_pos ⟨eU i,iR ns⟩,any_int]
@[simp] theorem oNotIn_ints (i:Int) (ns:List Int):oNotIn (.int i) (.lst (ns.map .int))=some (.sh (.bl (!ns.contains i))):=by
 show (if okD (D.int i)=true∧okD (D.lst (List.map D.int ns))=true then some (R.sh (D.bl (!(ns.map D.int).any fun y=>eqP y (D.int i)))) else none)=_
 rw [if_pos ⟨eU i,iR ns⟩,any_int]
end
end Ew
end
section
set_option Elab.async false
set_option linter.all false
set_option maxRecDepth 100000
namespace Ew
open PySem PySem.Spec L2
def tN (f:DSt→Option D):TE:=fun σ H Q=>∃ Hs δ d,aN Hs H∧eZ Hs H δ σ∧f δ=some d∧∀ v Hs' H' L,Wd H Hs Hs' H'→Own H' d v L→(∀ a∈L,H a=none∧Hs' a=none)→Q v H'
structure DN (X:Cx) (e:Expr) (f:DSt→Option D):Prop where
 go:PE X e (tN f)
def tNA (f:DSt→Option (List D)):TA:=fun σ H Q=>∃ Hs δ ds,aN Hs H∧eZ Hs H δ σ∧f δ=some ds∧∀ vs Hs' H' L,Wd H Hs Hs' H'→aJ H' ds vs L→(∀ a∈L,H a=none∧Hs' a=none)→Q vs H'
structure DNA (X:Cx) (es:List Expr) (f:DSt→Option (List D)):Prop where
 go:PA X es (tNA f)
abbrev FN:=DSt→Option D
theorem Own.flat {H Hs:Hp} {d:D} {v:V} (hf:d.flat=true) (h:Rep Hs d v):Own H d v []:=by
 cases d with
 | lst _=>cases hf
 | tup _=>cases hf
 | obj _ _=>cases hf
 | _=>unfold Rep at h;unfold Own;exact ⟨h,rfl⟩
theorem aJ.flat {H Hs:Hp}:∀ {ds:List D} {vs:List V},(ds.all D.flat)=true→aE Hs ds vs→aJ H ds vs []
 | [],_,_,h=>by unfold aE at h;unfold aJ;exact ⟨h,rfl⟩
 | d::ds,_,hf,h=>by
  unfold aE at h
  obtain ⟨v,r,e,h1,h2⟩:=h
  rw [List.all_cons,Bool.and_eq_true] at hf
  unfold aJ
  exact ⟨v,r,[],[],e,Own.flat hf.1 h1,aJ.flat hf.2 h2,fun _ z=>(by cases z),rfl⟩
theorem aJ.length {H:Hp}:∀ {ds:List D} {vs:List V} {L:List Addr},aJ H ds vs L→vs.length=ds.length
 | [],_,_,h=>by unfold aJ at h;rw [h.1];rfl
 | d::ds,_,_,h=>by
  unfold aJ at h
  obtain ⟨v,r,M,N,e,h1,h2,_⟩:=h
  rw [e];simp [aJ.length h2]
def R.toN:R→Option D
 | .sh d=>if d.flat=true then some d else none
 | .fr ds=>if ds.all D.flat=true then some (.lst ds) else none
 | .bw _=>none
def fz (f:FE):FN:=fun δ=>(f δ).bind R.toN
section
variable {X:Cx} {e a b c:Expr} {es:List Expr} {f:FE} {g h:FN} {gs:DSt→Option (List D)} {fr:DSt→Option (List R)} {pos:Pos} {n:Nat} {m:List D→Option D} {E:XK}
theorem dq.toN {H0 Hs H:Hp} {r:R} {v:V} {d:D} (h:dq H0 Hs H r v) (e:r.toN=some d):∃ L,Own H d v L∧∀ a∈L,H0 a=none∧Hs a=none:=by
 cases r with
 | sh d'=>
  replace e:(if d'.flat=true then some d' else none)=some d:=e
  by_cases hf:d'.flat=true
  ·
   rw [if_pos hf] at e;cases e
   exact ⟨[],Own.flat hf h,fun _ z=>by cases z⟩
  ·
   rw [if_neg hf] at e;cases e
 | fr ds=>
  replace e:(if ds.all D.flat=true then some (D.lst ds) else none)=some d:=e
  by_cases hf:ds.all D.flat=true
  ·
   rw [if_pos hf] at e;cases e
   obtain ⟨a,vs,e1,n1,m1,h1,h2⟩:=h
   refine ⟨[a],?_,fun b hb=>?_⟩
   ·
    unfold Own
    exact ⟨a,vs,[],e1,h1,aJ.flat hf h2,fun z=>(by cases z),rfl⟩
   ·
    rcases List.mem_cons.mp hb with rfl | hb
    ·
     exact ⟨n1,m1⟩
    ·
     cases hb
  ·
   rw [if_neg hf] at e;cases e
 | bw ds=>cases e
theorem gT (h:DE X e f):DN X e (fz f):=.mk <| h.go.weak fun σ H Q ⟨Hs,δ,d,S,En,e,K⟩=>by
 unfold fz at e
 cases ef:f δ with
 | none=>rw [ef] at e;cases e
 | some r=>
  rw [ef] at e
  refine ⟨Hs,δ,r,S,En,ef,fun v Hs1 H1 W1 R1=>?_⟩
  obtain ⟨L,o,n⟩:=R1.toN e
  exact K v Hs1 H1 L W1 o n
def dnw (g:FN):FE:=fun δ=>(g δ).map .sh
theorem de_dn (h:DN X e g):DE X e (dnw g):=.mk <| h.go.weak fun σ H Q ⟨Hs,δ,r,S,En,e,K⟩=>by
 unfold dnw at e
 cases ef:g δ with
 | none=>rw [ef] at e;cases e
 | some d=>
  rw [ef] at e;cases e
  refine ⟨Hs,δ,d,S,En,ef,fun v Hs1 H1 L W1 o n=>?_⟩
  obtain ⟨Hs2,q,s1,s2,s3⟩:=o.share W1.sub fun a ha=>(n a ha).2
  exact K v Hs2 H1 ⟨W1.keep,s1,W1.base.trans s2,fun a o e=>(s3 a o e).elim (W1.new a o) fun z=>.inr (n a z).1⟩ q
def md:DSt→Option (List D):=fun _=>some []
def eI (g:FN) (gs:DSt→Option (List D)):DSt→Option (List D):=fun δ=>(g δ).bind fun d=>(gs δ).bind fun ds=>some (d::ds)
theorem dna_nil:DNA X [] md:=.mk <| eE.weak fun σ H Q ⟨Hs,δ,r,S,En,e,K⟩=>by
 cases e
 exact K [] Hs H [] (.refl S) (by unfold aJ;exact ⟨rfl,rfl⟩) fun _ z=>by cases z
theorem iS (ha:DN X e g) (hr:DNA X es gs) (hs:starEach (e::es) X.env=(false,eval e X.env)::starEach es X.env:=by exact bP rfl):DNA X (e::es) (eI g gs):=
 .mk <| (ce ha.go hr.go hs).weak fun σ H Q ⟨Hs,δ,r,S,En,e,K⟩=>by
  unfold eI at e
  cases ea:g δ with
  | none=>rw [ea] at e;cases e
  | some d=>
   cases eb:gs δ with
   | none=>rw [ea,eb] at e;cases e
   | some ds=>
    rw [ea,eb] at e
    cases e
    refine ⟨Hs,δ,d,S,En,ea,fun x Hs1 H1 L1 W1 O1 n1=>⟨Hs1,δ,ds,W1.sub,En.mono W1,eb,fun vs Hs2 H2 L2 W2 O2 n2=>?_⟩⟩
    refine K (x::vs) Hs2 H2 (L1++L2) (W1.trans W2) ?_ fun a ha=>?_
    ·
     unfold aJ
     refine ⟨x,vs,L1,L2,rfl,O1.mono W2.keep,O2,fun a h1 h2=>?_,rfl⟩
     obtain ⟨o,ho⟩:=Own.cell _ O1 a h1
     rw [(n2 a h2).1] at ho;cases ho
    ·
     rcases List.mem_append.mp ha with h1 | h2
     ·
      obtain ⟨o,ho⟩:=Own.cell _ O1 a h1
      exact ⟨(n1 a h1).1,W2.stay ho (n1 a h1).2⟩
     ·
      exact ⟨W1.keep.free (n2 a h2).1,(n2 a h2).2⟩
def ntup (gs:DSt→Option (List D)):FN:=fun δ=>(gs δ).bind fun ds=>if ds.length≤big then some (.tup ds) else none
def nlst (gs:DSt→Option (List D)):FN:=fun δ=>(gs δ).bind fun ds=>if ds.length≤big then some (.lst ds) else none
theorem dn_tup {x1} (h:DNA X es gs):DN X (.Tuple es x1 pos) (ntup gs):=.mk <| (pe_tup h.go).weak fun σ H Q ⟨Hs,δ,r,S,En,e,K⟩=>by
 unfold ntup at e
 cases ea:gs δ with
 | none=>rw [ea] at e;cases e
 | some ds=>
  rw [ea] at e
  replace e:(if ds.length≤big then some (D.tup ds) else none)=some r:=e
  by_cases hc:ds.length≤big
  ·
   rw [if_pos hc] at e
   cases e
   refine ⟨Hs,δ,ds,S,En,ea,fun vs Hs1 H1 L W1 O n=>⟨?_,fun p hp=>?_⟩⟩
   ·
    rw [O.length];exact Nat.le_of_lt (bZ hc)
   ·
    have np:p∉L:=fun z=>by
     obtain ⟨o,ho⟩:=aJ.cell _ O p z
     rw [hp] at ho;cases ho
    refine K _ Hs1 _ (p::L) (W1.trans (.fresh W1.sub hp)) ?_ fun a ha=>?_
    ·
     unfold Own
     exact ⟨p,vs,L,rfl,aF,O.mono (.new hp),np,rfl⟩
    ·
     rcases List.mem_cons.mp ha with rfl | ha
     ·
      exact ⟨W1.keep.free hp,W1.sub.free hp⟩
     ·
      exact n a ha
  ·
   rw [if_neg hc] at e;cases e
def nif (t:DSt→Option Bool) (g h:FN):FN:=fun δ=>(t δ).bind fun k=>if k=true then g δ else h δ
end
def spN (n:Nat) (m:List D→Option D):Sp:=fun vs H Q _=>∃ Hs ds d,ds.length=n∧aN Hs H∧aE Hs ds vs∧m ds=some d∧∀ v Hs' H' L,Wd H Hs Hs' H'→Own H' d v L→(∀ a∈L,H a=none∧Hs' a=none)→Q v H'
theorem spN_len {n:Nat} {m:List D→Option D} {vs:List V} {H:Hp} {Q:VK} {E:XK} (h:spN n m vs H Q E):vs.length=n:=by
 obtain ⟨Hs,ds,d,e,_,r,_⟩:=h
 rw [r.length,e]
def jM (n:Nat) (m:List D→Option D) (fa:DSt→Option (List R)):FN:=fun δ=>(fa δ).bind fun rs=>if rs.length=n∧de rs=true then m (rs.map R.view) else none
theorem tN_call {n:Nat} {m:List D→Option D} {fr:DSt→Option (List R)} {E:XK} {σ:St} {H:Hp} {Q:VK} (h:tN (jM n m fr) σ H Q):tCall (spN n m) [] E (tDA fr) σ H Q:=by
 obtain ⟨Hs,δ,r,S,En,e,K⟩:=h
 unfold jM at e
 cases ea:fr δ with
 | none=>rw [ea] at e;cases e
 | some rs=>
  rw [ea] at e
  refine ⟨Hs,δ,rs,S,En,ea,fun vs Hs1 H1 W1 R1=>?_⟩
  replace e:(if rs.length=n∧de rs=true then m (rs.map R.view) else none)=some r:=e
  by_cases hc:rs.length=n∧de rs=true
  ·
   rw [if_pos hc] at e
   show spN n m (vs++[]) H1 Q E
   rw [List.append_nil]
   obtain ⟨Hs2,q1,q2,q3,q4⟩:=R1.freeze W1.sub
   have W2:Wd H Hs Hs2 H1:=⟨W1.keep,q2,W1.base.trans q3,fun a o e=>by
    rcases q4 (iE hc.2) a o e with z | z
    ·
     exact W1.new a o z
    ·
     exact .inr z⟩
   exact ⟨Hs2,_,r,by rw [List.length_map];exact hc.1,q2,q1,e,fun v Hs3 H3 L W3 O n=>K v Hs3 H3 L (W2.trans W3) O fun a ha=>⟨W1.keep.free (n a ha).1,(n a ha).2⟩⟩
  ·
   rw [if_neg hc] at e;cases e
def runN (k:Nat) (F:FS) (ds:List D):Option D:=match F (ds.map (fun d=>some (.sh d))++List.replicate (k-ds.length) none) with
 | some (.rt r)=>r.toN
 | some (.nx _)=>some .non
 | some (.rn d)=>some d
 | _=>none
section
variable {P:Program} {w:World} {K:PySem.W.Frag} {mg:Str→Option Value} {base:Heap}
theorem fn_N {x qual:Str} {st:Stmt} {f:Addr} {fd:FuncData} {N ps:List Str} {k:Nat} {F:FS} (F0:Fun K x qual st f fd) (S:dZ N ps (aw st))
  (h:∀ (cdv:Value) (A:Around) (outer:List Env) (s:Shared) (H:Hp) (E:XK),bC k (A.deeper (PyProof.Rows.envOfC qual (aw st) s.heap.objs.size f cdv))→DSs (jZ CX0 P w K mg base N qual (aw st) f cdv A outer s H E).nox (aS st) F) :
  dY P w K mg base CX0 (k+1) f fd ps (spN ps.length (runN N.length F)):=by
 refine F0.ok S (fun vs H Q E hs=>spN_len hs) (fun cdv A outer s H vs Q E hr hs=>?_)
 obtain ⟨Hs,ds,d,hl,sub,r,em,post⟩:=hs
 refine ⟨_,(h cdv A outer s H E hr).go H Hs,?_⟩
 unfold runN at em
 cases eF:F (ds.map (fun d=>some (.sh d))++List.replicate (N.length-ds.length) none) with
 | none=>rw [eF] at em;cases em
 | some res=>
  rw [eF] at em
  refine ⟨Hs,_,res,.refl sub,nX r,eF,?_⟩
  cases res with
  | nx δ=>
   cases em
   exact fun σ Hs1 H1 W1 _=>post .non Hs1 H1 [] W1 (by unfold Own;exact ⟨rfl,rfl⟩) fun _ z=>by cases z
  | rt r1=>
   intro v Hs1 H1 W1 R1
   obtain ⟨L,o,n⟩:=R1.toN em
   exact post v Hs1 H1 L W1 o n
  | bk δ=>cases em
  | ct δ=>cases em
  | rn d'=>
   cases em
   exact fun v Hs1 H1 L W1 O n=>post v Hs1 H1 L W1 O n
end
def iT (i:Nat) (g:FN):FS:=fun δ=>(g δ).bind fun d=>some (.nx (δ.set i (some (.nw d))))
def me (g:FN):FS:=fun δ=>(g δ).bind fun d=>some (.rn d)
section
variable {X:Cx} {e:Expr} {g:FN} {pos:Pos}
theorem ts_setN {H0 Hs0:Hp} {i:Nat} {D:Ends} {σ:St} {H:Hp} (h:tS H0 Hs0 (iT i g) D σ H):tAsg (tN g) (lN i) D σ H:=by
 obtain ⟨Hs,δ,res,W,S,e,P⟩:=h
 unfold iT at e
 cases et:g δ with
 | none=>rw [et] at e;cases e
 | some d=>
  rw [et] at e
  cases e
  refine ⟨Hs,δ,d,W.sub,S.ent,et,fun v Hs1 H1 L W1 O n=>P _ Hs1 H1 (W.trans W1) (S.put W.keep W1 ⟨L,O,fun a ha=>(n a ha).2⟩ fun b ⟨L',O',hb⟩=>?_)⟩
  rw [Own.uniq d O' O] at hb
  exact (n b hb).1
theorem ds_setN {i:Nat} {x:Str} {pos':Pos} (hN:X.N.Nodup) (hi:X.N[i]?=some x) (hx:Loc X.env.scope x) (he:DN X e g) (hs:swapsWith e (some (.Name x pos')) pos.line X.env=pure false:=by rfl)
 (hf:X.fn x=true∨X.env.scope.names.lookup x=some .local:=by first | exact .inl rfl | exact .inr rfl | assumption):DS X (.Assign [.Name x pos'] e pos) (iT i g):=.mk fun H0 Hs0=>(ps_set hN hi hx he.go hs hf).weak fun _ _ _=>ts_setN
theorem kR (h:DN X e g):DS X (.Return (some e) pos) (me g):=.mk fun H0 Hs0=>(ps_ret h.go).weak fun D σ H ⟨Hs,δ,res,W,S,e,P⟩=>by
 unfold me at e
 cases et:g δ with
 | none=>rw [et] at e;cases e
 | some d=>
  rw [et] at e
  cases e
  exact ⟨Hs,δ,d,W.sub,S.ent,et,fun v Hs1 H1 L W1 O n=>P v Hs1 H1 L (W.trans W1) O fun a ha=>⟨W.keep.free (n a ha).1,(n a ha).2⟩⟩
end
end Ew
end
section
set_option Elab.async false
set_option linter.all false
set_option maxRecDepth 100000
namespace Ew
open PySem PySem.Spec L2
theorem aJ.snoc {H:Hp}:∀ {ds:List D} {vs:List V} {L M:List Addr} {d:D} {v:V},aJ H ds vs L→Own H d v M→(∀ a∈L,a∉M)→aJ H (ds++[d]) (vs++[v]) (L++M)
 | [],_,_,M,d,v,h,h',n=>by
  unfold aJ at h
  obtain ⟨rfl,rfl⟩:=h
  show aJ H [d] [v] M
  unfold aJ
  exact ⟨v,[],M,[],rfl,h',by unfold aJ;exact ⟨rfl,rfl⟩,fun _ _ z=>(by cases z),by simp⟩
 | c::ds,_,_,M,d,v,h,h',n=>by
  unfold aJ at h
  obtain ⟨u,r,A,B,rfl,h1,h2,k,rfl⟩:=h
  have:=aJ.snoc h2 h' fun a ha=>n a (List.mem_append_right _ ha)
  show aJ H (c::(ds++[d])) (u::(r++[v])) _
  unfold aJ
  refine ⟨u,r++[v],A,B++M,rfl,h1,this,fun a ha hb=>?_,by simp⟩
  rcases List.mem_append.mp hb with hb | hb
  ·
   exact k a ha hb
  ·
   exact n a (List.mem_append_left _ ha) hb
def cM (g:GD) (c:DSt→Option Bool) (fe:FN) (δ:DSt):List D→Option (List D)
 | []=>some []
 | d::r=>(g d δ).bind fun δ1=>(c δ1).bind fun b=>if b=true then (fe δ1).bind fun r1=>(cM g c fe δ r).bind fun t=>some (r1::t) else cM g c fe δ r
def kS (fi:DSt→Option (List D)) (g:GD) (c:DSt→Option Bool) (fe:FN) (m:Nat) (ix:List Nat):FN:=fun δ=>(fi δ).bind fun items=>if items.length≤big then (cM g c fe (dIn m ix δ) items).map .lst else none
theorem tN_comp {fi:DSt→Option (List D)} {ks:List Nat} {g:GD} {c:DSt→Option Bool} {fe:FN} {m:Nat} {ix:List Nat} (hk:∀ j∈ks,j<m) {σ:St} {H:Hp} {Q:VK} (h:tN (kS fi g c fe m ix) σ H Q) :
  tComp (tI fi) (tG ks g) (tDT c) (tN fe) m ix σ H Q:=by
 obtain ⟨Hs,δ,r,S,En,e,K⟩:=h
 unfold kS at e
 cases ei:fi δ with
 | none=>rw [ei] at e;cases e
 | some items=>
  rw [ei] at e
  replace e:(if items.length≤big then (cM g c fe (dIn m ix δ) items).map D.lst else none)=some r:=e
  by_cases hbig:items.length≤big
  ·
   rw [if_pos hbig] at e
   cases em:cM g c fe (dIn m ix δ) items with
   | none=>rw [em] at e;cases e
   | some out=>
    rw [em] at e
    cases e
    refine ⟨Hs,δ,items,S,En,ei,fun J Hs1 H1 W1 Y A hA=>?_⟩
    have En1:eZ Hs1 H1 (dIn m ix δ) (fM m ix σ):=entIn m ix (En.mono W1)
    have len1:(fM m ix σ).length=(dIn m ix δ).length:=by unfold fM dIn;simp
    have hA1:Hs1 A=none:=W1.sub.free hA
    refine ⟨fun i n σ' H'=>n=items.length-i∧i≤items.length∧σ'.length=(dIn m ix δ).length∧(∀ j,m≤j→σ'[j]?=(fM m ix σ)[j]?)∧
     ∃ Hs' ds vs rest L,Wd H1 Hs1 Hs' H'∧Hs' A=none∧H' A=some (.lst vs)∧aJ H' ds vs L∧(∀ a∈L,H1 a=none∧Hs' a=none∧a≠A)∧ds.length≤i∧cM g c fe (dIn m ix δ) (items.drop i)=some rest∧out=ds++rest,?_,?_⟩
    ·
     refine ⟨items.length,by simp,Nat.zero_le _,len1,fun _ _=>rfl,Hs1,[],[],out,[],⟨.new hA,W1.sub.trans (.new hA),.refl _,fun _ _ e=>.inl e⟩,hA1,aF,by unfold aJ;exact ⟨rfl,rfl⟩,fun _ z=>(by cases z),Nat.zero_le _,by simpa using em,by simp⟩
    ·
     rintro i n σ1 H2 ⟨rfl,hi,hl1,hσ1,Hs2,ds,vs,rest,L,W2,hA2,hv2,r2,nL,hd2,e2,eo⟩
     by_cases hlt:i<items.length
     ·
      have hd:items[i]?=some items[i]:=by simp [hlt]
      obtain ⟨go,yl⟩:=(Y i Hs2 H2 W2.base W2.sub).1 _ hd
      refine .inr ⟨go,fun σ' H'=>i+1≤items.length∧σ'.length=(dIn m ix δ).length∧(∀ j,m≤j→σ'[j]?=(fM m ix σ)[j]?)∧
       ∃ Hs' ds vs rest L,Wd H1 Hs1 Hs' H'∧Hs' A=none∧H' A=some (.lst vs)∧aJ H' ds vs L∧(∀ a∈L,H1 a=none∧Hs' a=none∧a≠A)∧ds.length≤i+1∧cM g c fe (dIn m ix δ) (items.drop (i+1))=some rest∧out=ds++rest,
       fun σ' H' ⟨a,b,c',d'⟩=>⟨_,by omega,rfl,a,b,c',d'⟩,fun x H3 y=>?_⟩
      obtain ⟨Hs3,W3,rx⟩:=yl x H3 y
      have W13:=W2.trans W3
      have A3:=W3.stay hv2 hA2
      have v3:=W3.keep _ _ hv2
      have En3:eZ Hs3 H3 (dIn m ix δ) σ1:=fun j en q=>by
       obtain ⟨v,hv,hr⟩:=(En1.mono W13) j en q
       exact ⟨v,by rw [hσ1 j (dIn_own q)];exact hv,hr⟩
      rw [List.drop_eq_getElem_cons hlt] at e2
      unfold cM at e2
      cases eg:g items[i] (dIn m ix δ) with
      | none=>rw [eg] at e2;cases e2
      | some δ2=>
       rw [eg] at e2
       refine ⟨Hs3,_,items[i],δ2,W3.sub,hl1,rx,eg,fun σ4 sr=>?_⟩
       have hl4:σ4.length=(dIn m ix δ).length:=by rw [sr.lenS];exact hl1
       have hσ4:∀ j,m≤j→σ4[j]?=(fM m ix σ)[j]?:=fun j hj=>by
        rw [(sr.out j fun z=>Nat.not_lt.mpr hj (hk j z)).2];exact hσ1 j hj
       have En4:eZ Hs3 H3 δ2 σ4:=sr.ent En3
       replace e2:((c δ2).bind fun b=>if b=true then (fe δ2).bind fun r1=>(cM g c fe (dIn m ix δ) (items.drop (i+1))).bind fun t=>some (r1::t) else cM g c fe (dIn m ix δ) (items.drop (i+1)))=some rest:=e2
       cases ec:c δ2 with
       | none=>rw [ec] at e2;cases e2
       | some b=>
        rw [ec] at e2
        refine ⟨Hs3,δ2,b,W3.sub,En4,ec,fun Hs5 H5 W5=>?_⟩
        have W15:=W13.trans W5
        have A5:=W5.stay v3 A3
        have v5:=W5.keep _ _ v3
        have k25:aN H2 H5:=W3.keep.trans W5.keep
        have nL5:∀ a∈L,H1 a=none∧Hs5 a=none∧a≠A:=fun a ha=>by
         obtain ⟨o,ho⟩:=aJ.cell _ r2 a ha
         exact ⟨(nL a ha).1,W5.stay (W3.keep _ _ ho) (W3.stay ho (nL a ha).2.1),(nL a ha).2.2⟩
        cases b with
        | false=>
         simp only [Bool.false_eq_true,if_false]
         exact ⟨hlt,hl4,hσ4,Hs5,ds,vs,rest,L,W15,A5,v5,r2.mono k25,nL5,by omega,e2,eo⟩
        | true=>
         simp only [if_true]
         replace e2:((fe δ2).bind fun r1=>(cM g c fe (dIn m ix δ) (items.drop (i+1))).bind fun t=>some (r1::t))=some rest:=e2
         cases ef:fe δ2 with
         | none=>rw [ef] at e2;cases e2
         | some r1=>
          rw [ef] at e2
          replace e2:((cM g c fe (dIn m ix δ) (items.drop (i+1))).bind fun t=>some (r1::t))=some rest:=e2
          cases er:cM g c fe (dIn m ix δ) (items.drop (i+1)) with
          | none=>rw [er] at e2;cases e2
          | some t=>
           rw [er] at e2
           cases e2
           refine ⟨Hs5,δ2,r1,W5.sub,En4.mono W5,ef,fun v Hs7 H6 M W7 O6 n6=>?_⟩
           have A7:=W7.stay v5 A5
           have v7:=W7.keep _ _ v5
           have W17:=W15.trans W7
           have nA:H1 A=none:=hA
           have r5:=r2.mono k25
           have dj:∀ a∈L,a∉M:=fun a ha hm=>by
            obtain ⟨o,ho⟩:=aJ.cell _ r5 a ha
            rw [(n6 a hm).1] at ho;cases ho
           have nM:∀ a∈M,a≠A:=fun a ha z=>by
            have:=(n6 a ha).1
            rw [z,v5] at this;cases this
           have nLM:∀ a∈L++M,H1 a=none∧Hs7 a=none∧a≠A:=fun a ha=>by
            rcases List.mem_append.mp ha with h | h
            ·
             obtain ⟨o,ho⟩:=aJ.cell _ r5 a h
             exact ⟨(nL5 a h).1,W7.stay ho (nL5 a h).2.1,(nL5 a h).2.2⟩
            ·
             exact ⟨W15.keep.free (n6 a h).1,(n6 a h).2,nM a h⟩
           refine ⟨vs,v7,?_,hlt,hl4,hσ4,Hs7,ds++[r1],vs++[v],t,L++M,⟨fun b o q=>?_,fun b o q=>?_,W17.base,W17.new⟩,A7,aF,?_,nLM,by simp;omega,rfl,by rw [eo];simp⟩
           ·
            rw [r2.length];exact Nat.lt_of_le_of_lt hd2 (Nat.lt_trans hlt (bZ hbig))
           ·
            rw [aH (aR q nA)];exact W17.keep _ _ q
           ·
            rw [aH (aR q A7)];exact W17.sub _ _ q
           ·
            exact ((r5.mono W7.keep).snoc O6 dj).agree _ fun a ha=>aH (nLM a ha).2.2
     ·
      have hi':i=items.length:=by omega
      subst hi'
      rw [List.drop_length] at e2
      cases e2
      refine .inl ⟨(Y _ Hs2 H2 W2.base W2.sub).2 (Nat.le_refl _),K _ Hs2 H2 (A::L) (W1.trans W2) ?_ fun a ha=>?_⟩
      ·
       rw [eo,List.append_nil]
       unfold Own
       exact ⟨A,vs,L,rfl,hv2,r2,fun z=>(nL A z).2.2 rfl,rfl⟩
      ·
       rcases List.mem_cons.mp ha with rfl | ha
       ·
        exact ⟨W1.keep.free hA,hA2⟩
       ·
        exact ⟨W1.keep.free (nL a ha).1,(nL a ha).2.1⟩
  ·
   rw [if_neg hbig] at e;cases e
section
variable {X:Cx} {tg elt iter:Expr} {ifs:List Expr} {scope:Scope} {pos:Pos} {N:List Str} {m:Nat} {ix:List Nat} {ks:List Nat} {g:GD} {c:DSt→Option Bool} {fe:FN} {fi:DSt→Option (List D)}
theorem dn_comp (hc:X.calm=true) (S:dn X N m ix scope) (hk:∀ j∈ks,j<m) (hi:DI X tg iter fi)
  (hin:∀ cl C s H fp,DG (bv X N scope cl C s H fp) tg ks g∧DIfs (bv X N scope cl C s H fp) ifs c∧DN (bv X N scope cl C s H fp) elt fe)
  (hs:∀ x,foldedSetIterable iter X.env x=pure x:=by intro _;rfl):DN X (.ListComp elt [⟨tg,iter,ifs,0⟩] scope pos) (kS fi g c fe m ix):=.mk <|
 (pe_comp hc S hi.go (fun cl C s H fp=>⟨(hin cl C s H fp).1.go,(hin cl C s H fp).2.1.go,(hin cl C s H fp).2.2.go⟩) hs).weak fun _ _ _=>tN_comp hk
end
end Ew
end
section
set_option Elab.async false
set_option linter.all false
set_option maxRecDepth 100000
namespace Ew
open PySem PySem.Spec L2
theorem aT.snoc {H:Hp}:∀ {fs:List (Str×D)} {vs:List (Str×V)} {L M:List Addr} {f:Str} {d:D} {v:V},aT H fs vs L→Own H d v M→(∀ a∈L,a∉M)→aT H (fs++[(f,d)]) (vs++[(f,v)]) (L++M)
 | [],_,_,M,f,d,v,h,h',n=>by
  unfold aT at h
  obtain ⟨rfl,rfl⟩:=h
  show aT H [(f,d)] [(f,v)] M
  unfold aT
  exact ⟨v,[],M,[],rfl,h',by unfold aT;exact ⟨rfl,rfl⟩,fun _ _ z=>(by cases z),by simp⟩
 | c::fs,_,_,M,f,d,v,h,h',n=>by
  unfold aT at h
  obtain ⟨u,r,A,B,rfl,h1,h2,k,rfl⟩:=h
  have:=aT.snoc (f:=f) h2 h' fun a ha=>n a (List.mem_append_right _ ha)
  show aT H (c::(fs++[(f,d)])) ((c.1,u)::(r++[(f,v)])) _
  unfold aT
  refine ⟨u,r++[(f,v)],A,B++M,rfl,h1,this,fun a ha hb=>?_,by simp⟩
  rcases List.mem_append.mp hb with hb | hb
  ·
   exact k a ha hb
  ·
   exact n a (List.mem_append_left _ ha) hb
theorem aT.length {H:Hp}:∀ {fs:List (Str×D)} {vs:List (Str×V)} {L:List Addr},aT H fs vs L→vs.length=fs.length
 | [],_,_,h=>by unfold aT at h;rw [h.1];rfl
 | d::ds,_,_,h=>by
  unfold aT at h
  obtain ⟨v,r,M,N,e,h1,h2,_⟩:=h
  rw [e];simp [aT.length h2]
theorem aT.put_none {H:Hp} {f:Str} {v:V}:∀ {fs:List (Str×D)} {vs:List (Str×V)} {L:List Addr},aT H fs vs L→fs.lookup f=none→gg f v vs=vs++[(f,v)]
  | [],_,_,h,_=>by unfold aT at h;rw [h.1];rfl
  | (g,d)::fs,_,_,h,e=>by
    unfold aT at h
    obtain ⟨u,r,A,B,rfl,h1,h2,k,rfl⟩:=h
    rw [List.lookup_cons] at e
    cases hx:f==g with
    | true=>rw [hx] at e;cases e
    | false=>
      rw [hx] at e
      unfold gg
      have:¬g=f:=fun z=>by subst z;simp at hx
      rw [if_neg this,aT.put_none h2 e];rfl
def mf (C:Addr) (f:Str) (g:FN):FS:=fun δ=>match δ with
 | some (.on a (.obj C' fs))::r=>if C'=C∧fs.length<1000∧fs.lookup f=none then (g δ).bind fun d=>some (.nx (some (.on a (.obj C (fs++[(f,d)])))::r)) else none
 | _=>none
section
variable {X:Cx} {e:Expr} {g:FN}
theorem kz {f x:Str} {xp pos pos':Pos} {C:Addr} (hx:PE X (.Name x xp) (jY 0)) (he:DN X e g) (hk:Cls X.K C∧NoAttr X.K C f)
  (hs:swapsWith e (some (.Attribute (.Name x xp) f pos')) pos.line X.env=pure false:=by rfl) :
  DS X (.Assign [.Attribute (.Name x xp) f pos'] e pos) (mf C f g):=.mk fun H0 Hs0=>
 (ps_fld hx he.go hs).weak fun D σ H ⟨Hs,δ,res,W,S,e,P⟩=>by
  match δ,e,S with
  | some (.on a (.obj C' fs))::r,e,S=>
   replace e:(if C'=C∧fs.length<1000∧fs.lookup f=none then (g (some (.on a (.obj C' fs))::r)).bind fun d=>some (Res.nx (some (.on a (.obj C (fs++[(f,d)])))::r)) else none)=some res:=e
   by_cases hc:C'=C∧fs.length<1000∧fs.lookup f=none
   ·
    rw [if_pos hc] at e
    obtain ⟨rfl,hl,hf⟩:=hc
    cases eg:g (some (.on a (.obj C' fs))::r) with
    | none=>rw [eg] at e;cases e
    | some d=>
     rw [eg] at e
     cases e
     refine ⟨Hs,_,d,W.sub,S.ent,eg,fun y Hs1 H1 L1 W1 O1 n1=>?_⟩
     obtain ⟨v,hv,ev,L,O,nL⟩:=S.ent 0 _ rfl
     have O':=O
     unfold Own at O
     obtain ⟨a',dx,fvs,M,e1,h1,h3,h2,nM,nM2,rfl⟩:=O
     rw [ev] at e1;cases e1
     subst ev
     refine ⟨_,hv,a,C',dx,fvs,rfl,W1.keep _ _ h1,hk.1,hk.2,by rw [h2.length];exact hl,?_⟩
     have na:∀ b∈L1,b∉a::dx::M:=fun b hb z=>by
      obtain ⟨o,ho⟩:=Own.cell _ O' b z
      rw [(n1 b hb).1] at ho;cases ho
     have nd:dx≠a:=fun z=>by rw [z,h1] at h3;cases h3
     have aM:Hs1 a=none:=W1.stay h1 (nL a List.mem_cons_self)
     have ON:Own (L2.upd H1 a (.ins C' dx (fvs++[(f,y)]))) (.obj C' (fs++[(f,d)])) (.ref a) (a::dx::(M++L1)):=by
      unfold Own
      refine ⟨a,dx,fvs++[(f,y)],M++L1,rfl,aF,?_,?_,fun z=>?_,fun z=>?_,rfl⟩
      ·
       rw [aH nd];exact W1.keep _ _ h3
      ·
       refine (aT.snoc (h2.mono W1.keep) O1 fun b hb hb1=>na b hb1 (List.mem_cons_of_mem _ (List.mem_cons_of_mem _ hb))).agree _ fun b hb=>aH fun z=>?_
       subst z
       rcases List.mem_append.mp hb with hb | hb
       ·
        exact nM hb
       ·
        exact na _ hb List.mem_cons_self
      ·
       rcases List.mem_append.mp z with z | z
       ·
        exact nM z
       ·
        exact na _ z List.mem_cons_self
      ·
       rcases List.mem_append.mp z with z | z
       ·
        exact nM2 z
       ·
        exact na _ z (List.mem_cons_of_mem _ List.mem_cons_self)
     rw [h2.put_none hf]
     have:=S.upG (i:=0) (Hs':=Hs1) (H':=L2.upd H1 a (.ins C' dx (fvs++[(f,y)]))) (e':=.on a (.obj C' (fs++[(f,d)]))) (v':=.ref a) W rfl hv (fun b o n eb=>by
       have:b≠a:=fun z=>n ⟨_,O',by rw [z];exact List.mem_cons_self⟩
       rw [aH this];exact W1.keep _ _ eb) (fun b o eb=>by rw [aH (aR eb aM)];exact W1.sub _ _ eb) W1.base W1.new
       ⟨rfl,_,ON,fun b hb=>by
        rcases List.mem_cons.mp hb with rfl | hb
        ·
         exact aM
        ·
         rcases List.mem_cons.mp hb with rfl | hb
         ·
          exact W1.stay h3 (nL _ (List.mem_cons_of_mem _ List.mem_cons_self))
         ·
          rcases List.mem_append.mp hb with hb | hb
          ·
           obtain ⟨o,ho⟩:=aT.cell _ h2 b hb
           exact W1.stay ho (nL _ (List.mem_cons_of_mem _ (List.mem_cons_of_mem _ hb)))
          ·
           exact (n1 b hb).2⟩
       (fun b ⟨L',f',hb⟩=>by
        rw [Own.uniq _ f' ON] at hb
        rcases List.mem_cons.mp hb with rfl | hb
        ·
         exact .inl ⟨_,O',List.mem_cons_self⟩
        ·
         rcases List.mem_cons.mp hb with rfl | hb
         ·
          exact .inl ⟨_,O',List.mem_cons_of_mem _ List.mem_cons_self⟩
         ·
          rcases List.mem_append.mp hb with hb | hb
          ·
           exact .inl ⟨_,O',List.mem_cons_of_mem _ (List.mem_cons_of_mem _ hb)⟩
          ·
           exact .inr (n1 b hb).1)
     rw [set_same hv] at this
     exact P σ Hs1 _ this.1 this.2
   ·
    rw [if_neg hc] at e;cases e
end
def spIN (C:Addr) (n:Nat) (m:List D→Option (List (Str×D))):Sp:=fun vs H Q _=>∃ H1 Hs p dx us ds fs,ds.length=n∧vs=.ref p::us∧H=L2.upd (L2.upd H1 dx (.own p)) p (.ins C dx [])∧H1 p=none∧H1 dx=none∧dx≠p∧aN Hs H1∧aE Hs ds us∧m ds=some fs∧
 ∀ Hs' H' L,Wd H1 Hs Hs' H'→Own H' (.obj C fs) (.ref p) L→(∀ a∈L,H1 a=none∧Hs' a=none)→Q .non H'
def iU (k:Nat) (C:Addr) (F:FS) (ds:List D) (p:Addr):Option (List (Str×D)):=match F (some (.on p (.obj C []))::(ds.map (fun d=>some (.sh d))++List.replicate (k-(ds.length+1)) none)) with
 | some (.nx (some (.on a (.obj C' fs))::_))=>if a=p∧C'=C then some fs else none
 | _=>none
section
variable {P:Program} {w:World} {K:PySem.W.Frag} {mg:Str→Option Value} {base:Heap}
theorem fn_IN {x qual:Str} {st:Stmt} {f C:Addr} {fd:FuncData} {N ps:List Str} {k n:Nat} {F:FS} {m:List D→Option (List (Str×D))} (hn:ps.length=n+1) (F0:Fun K x qual st f fd) (S:dZ N ps (aw st))
  (hm:∀ ds fs,m ds=some fs→∀ p,iU N.length C F ds p=some fs)
  (h:∀ (cdv:Value) (A:Around) (outer:List Env) (s:Shared) (H:Hp) (E:XK),bC k (A.deeper (PyProof.Rows.envOfC qual (aw st) s.heap.objs.size f cdv))→DSs (jZ CX0 P w K mg base N qual (aw st) f cdv A outer s H E).nox (aS st) F) :
  dY P w K mg base CX0 (k+1) f fd ps (spIN C n m):=by
 refine F0.ok S (fun vs H Q E' hs=>?_) (fun cdv A outer s H vs Q E' hr hs=>?_)
 ·
  obtain ⟨H1,Hs,p,dx,us,ds,fs,e1,rfl,_,_,_,_,_,r,_⟩:=hs
  rw [List.length_cons,r.length,e1,hn]
 ·
  obtain ⟨H1,Hs,p,dx,us,ds,fs,e1,rfl,rfl,np,nd,ne,sub,r,em,post⟩:=hs
  refine ⟨_,(h cdv A outer s _ E' hr).go H1 Hs,?_⟩
  have em:=hm ds fs em p
  unfold iU at em
  have np':(L2.upd H1 dx (.own p)) p=none:=by rw [aH (Ne.symm ne)];exact np
  have W0:Wd H1 Hs Hs (L2.upd (L2.upd H1 dx (.own p)) p (.ins C dx [])):=(Wd.fresh sub nd).trans (.fresh (sub.trans (.new nd)) np')
  have hsp:Hs p=none:=sub.free np
  have hsd:Hs dx=none:=sub.free nd
  have O0:Own (L2.upd (L2.upd H1 dx (.own p)) p (.ins C dx [])) (.obj C []) (.ref p) [p,dx]:=by
   unfold Own
   refine ⟨p,dx,[],[],rfl,aF,?_,by unfold aT;exact ⟨rfl,rfl⟩,fun z=>(by cases z),fun z=>(by cases z),rfl⟩
   rw [aH ne,aF]
  have in2:∀ b∈[p,dx],H1 b=none∧Hs b=none:=fun b hb=>by
   rcases List.mem_cons.mp hb with rfl | hb
   ·
    exact ⟨np,hsp⟩
   ·
    rcases List.mem_cons.mp hb with rfl | hb
    ·
     exact ⟨nd,hsd⟩
    ·
     cases hb
  have St0:StR H1 Hs (L2.upd (L2.upd H1 dx (.own p)) p (.ins C dx [])) (some (.on p (.obj C []))::(ds.map (fun d=>some (E.sh d))++List.replicate (N.length-(ds.length+1)) none)) (L2.start N (.ref p::us)):=by
   have hN:n+1≤N.length:=by
    have:=congrArg List.length S.pre
    rw [List.length_take,hn] at this
    omega
   have get:∀ (i:Nat) (en:E),(ds.map (fun d=>some (E.sh d))++List.replicate (N.length-(ds.length+1)) none)[i]?=some (some en)→∃ d,ds[i]?=some d∧en=E.sh d:=fun i en h=>by
    by_cases hi:i<ds.length
    ·
     rw [List.getElem?_append_left (by simpa using hi),List.getElem?_map] at h
     cases q:ds[i]? with
     | none=>rw [q] at h;cases h
     | some d=>rw [q] at h;cases h;exact ⟨d,rfl,rfl⟩
    ·
     rw [List.getElem?_append_right (by simpa using hi),List.getElem?_replicate] at h
     split at h <;> cases h
   refine ⟨fun i en h=>?_,?_,fun i e v b h hv f=>?_,fun i j e e' v v' b hij h h' _ _ f f'=>?_⟩
   ·
    cases i with
    | zero=>
     cases h
     exact ⟨.ref p,rfl,rfl,[p,dx],O0,fun b hb=>(in2 b hb).2⟩
    | succ i=>
     obtain ⟨d,hd,rfl⟩:=get i en (by simpa using h)
     obtain ⟨v,hv,rv⟩:=r.get hd
     refine ⟨v,?_,rv⟩
     unfold L2.start
     have hi:i<us.length:=(List.getElem?_eq_some_iff.mp hv).1
     rw [List.map_cons,List.cons_append,List.getElem?_cons_succ,List.getElem?_append_left (by simpa using hi),List.getElem?_map,hv]
     rfl
   ·
    unfold L2.start
    simp [r.length]
   ·
    cases i with
    | zero=>
     cases h
     have hv':(some (some (V.ref p)):Option (Option V))=some (some v):=hv
     cases hv'
     obtain ⟨L,O,hb⟩:=f
     rw [Own.uniq _ O O0] at hb
     exact (in2 b hb).1
    | succ i=>obtain ⟨d,_,z⟩:=get i _ (by simpa using h);rw [z] at f;cases f
   ·
    cases i with
    | zero=>
     cases j with
     | zero=>exact hij rfl
     | succ j=>obtain ⟨d,_,z⟩:=get j _ (by simpa using h');rw [z] at f';cases f'
    | succ i=>obtain ⟨d,_,z⟩:=get i _ (by simpa using h);rw [z] at f;cases f
  cases eF:F (some (.on p (.obj C []))::(ds.map (fun d=>some (E.sh d))++List.replicate (N.length-(ds.length+1)) none)) with
  | none=>rw [eF] at em;cases em
  | some res=>
   rw [eF] at em
   refine ⟨Hs,_,res,W0,St0,eF,?_⟩
   match res,em with
   | .nx (some (.on a (.obj C' fs'))::rest),em=>
    by_cases hc:a=p∧C'=C
    ·
     simp only [if_pos hc] at em
     cases em
     obtain ⟨rfl,rfl⟩:=hc
     intro σ Hs1 H1' W1 S1
     obtain ⟨v,hv,ev,L,O,nL⟩:=S1.ent 0 _ rfl
     subst ev
     exact post Hs1 H1' L W1 O fun b hb=>⟨S1.new 0 _ _ b rfl hv ⟨L,O,hb⟩,nL b hb⟩
    ·
     simp only [if_neg hc] at em;cases em
end
def f6 (C:Addr) (n:Nat) (m:List D→Option (List (Str×D))) (fa:DSt→Option (List R)):FN:=fun δ=>(fa δ).bind fun rs=>if rs.length=n∧de rs=true then (m (rs.map R.view)).map (.obj C) else none
theorem tN_make {C:Addr} {n:Nat} {m:List D→Option (List (Str×D))} {fr:DSt→Option (List R)} {E:XK} {σ:St} {H:Hp} {Q:VK} (h:tN (f6 C n m fr) σ H Q):tMake C (spIN C n m) [] E (tDA fr) σ H Q:=by
 obtain ⟨Hs,δ,r,S,En,e,K⟩:=h
 unfold f6 at e
 cases ea:fr δ with
 | none=>rw [ea] at e;cases e
 | some rs=>
  rw [ea] at e
  replace e:(if rs.length=n∧de rs=true then (m (rs.map R.view)).map (.obj C) else none)=some r:=e
  refine ⟨Hs,δ,rs,S,En,ea,fun vs Hs1 H1 W1 R1 x dx nx nd ne=>?_⟩
  by_cases hc:rs.length=n∧de rs=true
  ·
   rw [if_pos hc] at e
   cases em:m (rs.map R.view) with
   | none=>rw [em] at e;cases e
   | some fs=>
    rw [em] at e
    cases e
    obtain ⟨Hs2,q1,q2,q3,q4⟩:=R1.freeze W1.sub
    have W2:Wd H Hs Hs2 H1:=⟨W1.keep,q2,W1.base.trans q3,fun a o e=>by
     rcases q4 (iE hc.2) a o e with z | z
     ·
      exact W1.new a o z
     ·
      exact .inr z⟩
    rw [List.append_nil]
    refine ⟨H1,Hs2,x,dx,vs,_,fs,by rw [List.length_map];exact hc.1,rfl,rfl,nx,nd,ne,q2,q1,em,fun Hs3 H3 L W3 O n3=>⟨rfl,?_⟩⟩
    exact K (.ref x) Hs3 H3 L (W2.trans W3) O fun a ha=>⟨W1.keep.free (n3 a ha).1,(n3 a ha).2⟩
  ·
   rw [if_neg hc] at e;cases e
def dN (i:Nat) (t:DSt→Option Bool) (F G:FS):FS:=fun δ=>(t (frz i δ)).bind fun b=>if b=true then F δ else G δ
def mh (i k:Nat) (f:FE):FS:=fun δ=>(f (frz i δ)).bind fun r=>match r with
 | .sh d=>if d.flat=true then some (.nx (δ.set k (some (.sh d)))) else none
 | _=>none
theorem Wd.lend {H Hs Hs1 Hs2 H2:Hp} (s:aN Hs H) (w:Wd H Hs1 Hs2 H2):Wd H Hs Hs H2:=⟨w.keep,s.trans w.keep,.refl _,fun _ _ e=>.inl e⟩
section
variable {X:Cx} {c e:Expr} {a b:List Stmt} {t:DSt→Option Bool} {F G:FS} {f:FE} {pos:Pos}
theorem ds_ifB {i:Nat} (hc:DT X c t) (ha:DSs X a F) (hb:DSs X b G):DS X (.If c a b pos) (dN i t F G):=.mk fun H0 Hs0=>(ps_if hc.go (ha.go H0 Hs0) (hb.go H0 Hs0)).weak fun D σ H ⟨Hs,δ,res,W,S,e,P⟩=>by
 unfold dN at e
 cases et:t (frz i δ) with
 | none=>rw [et] at e;cases e
 | some k=>
  rw [et] at e
  obtain ⟨Hs1,W1,S1⟩:=S.frz (i:=i) W
  refine ⟨Hs1,_,k,W1.sub,S1.ent,et,fun Hs2 H2 W2=>?_⟩
  have W3:=W2.lend W.sub
  cases k with
  | true=>show (if true=true then tS H0 Hs0 F D σ H2 else tS H0 Hs0 G D σ H2);rw [if_pos rfl];exact ⟨Hs,δ,res,W.trans W3,S.mono W3,e,P⟩
  | false=>show (if false=true then tS H0 Hs0 F D σ H2 else tS H0 Hs0 G D σ H2);rw [if_neg Bool.false_ne_true];exact ⟨Hs,δ,res,W.trans W3,S.mono W3,e,P⟩
theorem ds_setB {i k:Nat} {x:Str} {pos':Pos} (hN:X.N.Nodup) (hi:X.N[k]?=some x) (hx:Loc X.env.scope x) (he:DE X e f) (hs:swapsWith e (some (.Name x pos')) pos.line X.env=pure false:=by rfl)
  (hf:X.fn x=true∨X.env.scope.names.lookup x=some .local:=by first | exact .inl rfl | exact .inr rfl | assumption):DS X (.Assign [.Name x pos'] e pos) (mh i k f):=.mk fun H0 Hs0=>(ps_set hN hi hx he.go hs hf).weak fun D σ H ⟨Hs,δ,res,W,S,e,P⟩=>by
 unfold mh at e
 cases et:f (frz i δ) with
 | none=>rw [et] at e;cases e
 | some r=>
  rw [et] at e
  obtain ⟨Hs1,W1,S1⟩:=S.frz (i:=i) W
  refine ⟨Hs1,_,r,W1.sub,S1.ent,et,fun v Hs2 H2 W2 R2=>?_⟩
  match r,e,R2 with
  | .sh d,e,R2=>
   replace e:(if d.flat=true then some (Res.nx (δ.set k (some (.sh d)))) else none)=some res:=e
   by_cases hf:d.flat=true
   ·
    rw [if_pos hf] at e
    cases e
    have W3:=W2.lend W.sub
    exact P _ Hs H2 (W.trans W3) (S.put W.keep W3 (Rep.flat hf R2) fun b z=>by cases z)
   ·
    rw [if_neg hf] at e;cases e
end
end Ew
end
section
set_option Elab.async false
set_option linter.all false
set_option maxRecDepth 100000
namespace Ew
open PySem PySem.Spec L2
def oIs:D→D→Option R
 | .bl b,.bl c=>some (.sh (.bl (decide (b=c))))
 | .non,.bl _=>some (.sh (.bl false))
 | .int _,.bl _=>some (.sh (.bl false))
 | .str _,.bl _=>some (.sh (.bl false))
 | .lst _,.bl _=>some (.sh (.bl false))
 | .tup _,.bl _=>some (.sh (.bl false))
 | .obj _ _,.bl _=>some (.sh (.bl false))
 | .non,.non=>some (.sh (.bl true))
 | .bl _,.non=>some (.sh (.bl false))
 | .int _,.non=>some (.sh (.bl false))
 | .str _,.non=>some (.sh (.bl false))
 | .lst _,.non=>some (.sh (.bl false))
 | .tup _,.non=>some (.sh (.bl false))
 | .obj _ _,.non=>some (.sh (.bl false))
 | _,_=>none
def cW (a b:D):Option R:=(oIs a b).bind fun r=>match r with
 | .sh (.bl x)=>some (.sh (.bl (!x)))
 | _=>none
section
variable {X:Cx}
theorem is_vals {H Hs:Hp} {a b:D} {x y:V} {v u:Value} {r:R} (S:aN Hs H) (va:View Hs H a x) (vb:View Hs H b y) (rx:RelV x v) (ry:RelV y u) (e:oIs a b=some r):plainIs v u=true∧r=.sh (.bl (v==u)):=by
 have key:∀ (x:V),RelV x v→(∀ q,x≠.bl q)→(∀ n,x≠.ty n)→(x=.non→v=.none)∧∀ c,plainIs v (.bool c)=true∧(v==Value.bool c)=false∧plainIs v .none=true∧(x≠.non→(v==Value.none)=false):=fun x rx nq nt=>by
  cases x with
  | non=>cases rx;exact ⟨fun _=>rfl,fun c=>⟨rfl,rfl,rfl,fun z=>absurd rfl z⟩⟩
  | bl q=>exact absurd rfl (nq q)
  | int i=>obtain ⟨t,rfl⟩:=rx;exact ⟨fun z=>(by cases z),fun c=>⟨rfl,rfl,rfl,fun _=>rfl⟩⟩
  | str i=>obtain ⟨t,rfl⟩:=rx;exact ⟨fun z=>(by cases z),fun c=>⟨rfl,rfl,rfl,fun _=>rfl⟩⟩
  | byt i=>obtain ⟨t,rfl⟩:=rx;exact ⟨fun z=>(by cases z),fun c=>⟨rfl,rfl,rfl,fun _=>rfl⟩⟩
  | flt i=>obtain ⟨t,rfl⟩:=rx;exact ⟨fun z=>(by cases z),fun c=>⟨rfl,rfl,rfl,fun _=>rfl⟩⟩
  | ref i=>cases rx;exact ⟨fun z=>(by cases z),fun c=>⟨rfl,rfl,rfl,fun _=>rfl⟩⟩
  | ty n=>exact absurd rfl (nt n)
 have fin:∀ {x:V},RelV x v→(∀ q,x≠.bl q)→(∀ n,x≠.ty n)→x≠.non→((∃ c,y=.bl c)∨y=.non)→r=.sh (.bl false)→plainIs v u=true∧r=.sh (.bl (v==u)):=fun {x} rx nq nt nn hy er=>by
  have:=(key x rx nq nt).2
  rcases hy with ⟨c,rfl⟩ | rfl
  ·
   cases ry;rw [er,(this c).2.1];exact ⟨(this c).1,rfl⟩
  ·
   cases ry;rw [er,(this true).2.2.2 nn];exact ⟨(this true).2.2.1,rfl⟩
 match a,b,e,va,vb with
 | .bl p,.bl c,e,va,vb=>
  cases e
  have h1:=va.bl;have h2:=vb.bl
  subst h1;subst h2
  cases rx;cases ry
  refine ⟨rfl,?_⟩
  cases p <;> cases c <;> rfl
 | .non,.non,e,va,vb=>
  cases e
  have h1:=va.non;have h2:=vb.non
  subst h1;subst h2
  cases rx;cases ry
  exact ⟨rfl,rfl⟩
 | .non,.bl c,e,va,vb=>
  cases e
  have h1:=va.non;have h2:=vb.bl
  subst h1;subst h2
  cases rx;cases ry
  exact ⟨rfl,rfl⟩
 | .bl p,.non,e,va,vb=>
  cases e
  have h1:=va.bl;have h2:=vb.non
  subst h1;subst h2
  cases rx;cases ry
  exact ⟨rfl,rfl⟩
 | .int _,.bl _,e,va,vb=>cases e;have h1:=va.int;subst h1;exact fin rx (fun _ z=>by cases z) (fun _ z=>by cases z) (fun z=>by cases z) (.inl ⟨_,vb.bl⟩) rfl
 | .str _,.bl _,e,va,vb=>cases e;have h1:=va.str;subst h1;exact fin rx (fun _ z=>by cases z) (fun _ z=>by cases z) (fun z=>by cases z) (.inl ⟨_,vb.bl⟩) rfl
 | .lst _,.bl _,e,va,vb=>cases e;obtain ⟨a,vs,h1,_⟩:=va.lst S;subst h1;exact fin rx (fun _ z=>by cases z) (fun _ z=>by cases z) (fun z=>by cases z) (.inl ⟨_,vb.bl⟩) rfl
 | .tup _,.bl _,e,va,vb=>cases e;obtain ⟨a,vs,h1,_⟩:=va.tup S;subst h1;exact fin rx (fun _ z=>by cases z) (fun _ z=>by cases z) (fun z=>by cases z) (.inl ⟨_,vb.bl⟩) rfl
 | .obj _ _,.bl _,e,va,vb=>cases e;obtain ⟨a,dx,vs,h1,_⟩:=va.obj S;subst h1;exact fin rx (fun _ z=>by cases z) (fun _ z=>by cases z) (fun z=>by cases z) (.inl ⟨_,vb.bl⟩) rfl
 | .int _,.non,e,va,vb=>cases e;have h1:=va.int;subst h1;exact fin rx (fun _ z=>by cases z) (fun _ z=>by cases z) (fun z=>by cases z) (.inr vb.non) rfl
 | .str _,.non,e,va,vb=>cases e;have h1:=va.str;subst h1;exact fin rx (fun _ z=>by cases z) (fun _ z=>by cases z) (fun z=>by cases z) (.inr vb.non) rfl
 | .lst _,.non,e,va,vb=>cases e;obtain ⟨a,vs,h1,_⟩:=va.lst S;subst h1;exact fin rx (fun _ z=>by cases z) (fun _ z=>by cases z) (fun z=>by cases z) (.inr vb.non) rfl
 | .tup _,.non,e,va,vb=>cases e;obtain ⟨a,vs,h1,_⟩:=va.tup S;subst h1;exact fin rx (fun _ z=>by cases z) (fun _ z=>by cases z) (fun z=>by cases z) (.inr vb.non) rfl
 | .obj _ _,.non,e,va,vb=>cases e;obtain ⟨a,dx,vs,h1,_⟩:=va.obj S;subst h1;exact fin rx (fun _ z=>by cases z) (fun _ z=>by cases z) (fun z=>by cases z) (.inr vb.non) rfl
theorem op_oIs:OpR X (compareOp .Is) (rD oIs):=by
 intro pins s σ H x y v u Q I rx ry h
 obtain ⟨Hs,a,b,r,S,va,vb,e,K⟩:=h
 obtain ⟨hp,rfl⟩:=is_vals S va vb rx ry e
 exact wpAny_is_plain hp (fin_bl I (K (.bl (v==u)) Hs H (.refl S) (shB _ _ _ _)) rfl)
theorem fA:OpR X (compareOp .IsNot) (rD cW):=by
 intro pins s σ H x y v u Q I rx ry h
 obtain ⟨Hs,a,b,r,S,va,vb,e,K⟩:=h
 unfold cW at e
 cases eo:oIs a b with
 | none=>rw [eo] at e;cases e
 | some r0=>
  rw [eo] at e
  obtain ⟨hp,rfl⟩:=is_vals S va vb rx ry eo
  cases e
  exact wpAny_isNot_plain hp (fin_bl I (K (.bl (!(v==u))) Hs H (.refl S) (shB _ _ _ _)) rfl)
end
end Ew
end
section
set_option Elab.async false
set_option linter.all false
set_option maxRecDepth 100000
namespace Ew
open PySem PySem.Spec L2
inductive Stp where
 | f (C:Addr) (g:Str)
 | x (n:Nat)
def setF (g:Str) (h:D→D):List (Str×D)→List (Str×D)
  | []=>[]
  | (k,e)::r=>if k=g then (k,h e)::r else (k,e)::setF g h r
def setX (n:Nat) (h:D→D) (ds:List D):List D:=match ds[n]? with
 | some e=>ds.set n (h e)
 | none=>ds
def sub:D→List Stp→Option D
 | d,[]=>some d
 | .obj C fs,.f C' g::π=>if C=C' then (fs.lookup g).bind (sub · π) else none
 | .lst ds,.x n::π=>ds[n]?.bind (sub · π)
 | .tup ds,.x n::π=>ds[n]?.bind (sub · π)
 | _,_::_=>none
def putAt:D→List Stp→D→D
 | _,[],d'=>d'
 | .obj C fs,.f _ g::π,d'=>.obj C (setF g (putAt · π d') fs)
 | .lst ds,.x n::π,d'=>.lst (setX n (putAt · π d') ds)
 | .tup ds,.x n::π,d'=>.tup (setX n (putAt · π d') ds)
 | d,_::_,_=>d
def At (H:Hp):D→V→List Stp→D→V→Prop
 | d,v,[],d',v'=>d'=d∧v'=v
 | .obj C fs,v,.f C' g::π,d',v'=>C=C'∧∃ a dx fvs w e,v=.ref a∧H a=some (.ins C dx fvs)∧fs.lookup g=some e∧fvs.lookup g=some w∧At H e w π d' v'
 | .lst ds,v,.x n::π,d',v'=>∃ a vs w e,v=.ref a∧H a=some (.lst vs)∧ds[n]?=some e∧vs[n]?=some w∧At H e w π d' v'
 | .tup ds,v,.x n::π,d',v'=>∃ a vs w e,v=.ref a∧H a=some (.tup vs)∧ds[n]?=some e∧vs[n]?=some w∧At H e w π d' v'
 | _,_,_::_,_,_=>False
theorem aJ.part {H:Hp}:∀ {ds:List D} {vs:List V} {L:List Addr} {n:Nat} {e:D} {w:V},aJ H ds vs L→ds[n]?=some e→vs[n]?=some w→
  ∃ M,Own H e w M∧(∀ b∈M,b∈L)∧∀ H' e' M',(∀ b,b∉M→H' b=H b)→Own H' e' w M'→(∀ b∈M',b∈M)→∃ L',aJ H' (ds.set n e') vs L'∧∀ b∈L',b∈L
 | [],_,_,n,e,w,h,he,hw=>by simp at he
 | d::ds,_,_,0,e,w,h,he,hw=>by
  unfold aJ at h
  obtain ⟨v,r,A,B,rfl,h1,h2,k,rfl⟩:=h
  simp at he hw
  subst he;subst hw
  refine ⟨A,h1,fun b hb=>List.mem_append_left _ hb,fun H' e' M' ag o s=>⟨M'++B,?_,fun b hb=>?_⟩⟩
  ·
   rw [List.set_cons_zero]
   unfold aJ
   exact ⟨v,r,M',B,rfl,o,h2.agree _ fun b hb=>ag b fun z=>k b z hb,fun b hb hb'=>k b (s b hb) hb',rfl⟩
  ·
   rcases List.mem_append.mp hb with hb | hb
   ·
    exact List.mem_append_left _ (s b hb)
   ·
    exact List.mem_append_right _ hb
 | d::ds,_,_,n+1,e,w,h,he,hw=>by
  unfold aJ at h
  obtain ⟨v,r,A,B,rfl,h1,h2,k,rfl⟩:=h
  simp at he hw
  obtain ⟨M,o,s,p⟩:=aJ.part h2 he hw
  refine ⟨M,o,fun b hb=>List.mem_append_right _ (s b hb),fun H' e' M' ag o' s'=>?_⟩
  obtain ⟨L',q1,q2⟩:=p H' e' M' ag o' s'
  refine ⟨A++L',?_,fun b hb=>?_⟩
  ·
   rw [List.set_cons_succ]
   unfold aJ
   exact ⟨v,r,A,L',rfl,h1.agree _ fun b hb=>ag b fun z=>k b hb (s b z),q1,fun b hb hb'=>k b hb (q2 b hb'),rfl⟩
  ·
   rcases List.mem_append.mp hb with hb | hb
   ·
    exact List.mem_append_left _ hb
   ·
    exact List.mem_append_right _ (q2 b hb)
theorem aT.part {H:Hp} {g:Str}:∀ {fs:List (Str×D)} {vs:List (Str×V)} {L:List Addr} {e:D} {w:V},aT H fs vs L→fs.lookup g=some e→vs.lookup g=some w→
    ∃ M,Own H e w M∧(∀ b∈M,b∈L)∧∀ H' (h:D→D) M',(∀ b,b∉M→H' b=H b)→Own H' (h e) w M'→(∀ b∈M',b∈M)→∃ L',aT H' (setF g h fs) vs L'∧∀ b∈L',b∈L
  | [],_,_,e,w,h,he,hw=>by simp at he
  | (c,d)::fs,_,_,e,w,h,he,hw=>by
    unfold aT at h
    obtain ⟨v,r,A,B,rfl,h1,h2,k,rfl⟩:=h
    rw [List.lookup_cons] at he hw
    cases hx:g==c with
    | true=>
      rw [hx] at he hw
      cases he;cases hw
      have hc:c=g:=by simpa using (eq_comm.mp (by simpa using hx))
      refine ⟨A,h1,fun b hb=>List.mem_append_left _ hb,fun H' h M' ag o s=>⟨M'++B,?_,fun b hb=>?_⟩⟩
      · unfold setF
        rw [if_pos hc]
        unfold aT
        exact ⟨_,r,M',B,rfl,o,h2.agree _ fun b hb=>ag b fun z=>k b z hb,fun b hb hb'=>k b (s b hb) hb',rfl⟩
      · rcases List.mem_append.mp hb with hb | hb
        · exact List.mem_append_left _ (s b hb)
        · exact List.mem_append_right _ hb
    | false=>
      rw [hx] at he hw
      have hc:¬c=g:=fun z=>by subst z;simp at hx
      obtain ⟨M,o,s,p⟩:=aT.part h2 he hw
      refine ⟨M,o,fun b hb=>List.mem_append_right _ (s b hb),fun H' h M' ag o' s'=>?_⟩
      obtain ⟨L',q1,q2⟩:=p H' h M' ag o' s'
      refine ⟨A++L',?_,fun b hb=>?_⟩
      · unfold setF
        rw [if_neg hc]
        unfold aT
        exact ⟨v,r,A,L',rfl,h1.agree _ fun b hb=>ag b fun z=>k b hb (s b z),q1,fun b hb hb'=>k b hb (q2 b hb'),rfl⟩
      · rcases List.mem_append.mp hb with hb | hb
        · exact List.mem_append_left _ hb
        · exact List.mem_append_right _ (q2 b hb)
theorem Own.part {H:Hp} {π:List Stp}:∀ {d:D} {v:V} {L:List Addr} {d':D} {v':V},Own H d v L→At H d v π d' v'→
  ∃ M,Own H d' v' M∧(∀ b∈M,b∈L)∧∀ H' e' M',(∀ b,b∉M→H' b=H b)→Own H' e' v' M'→(∀ b∈M',b∈M)→∃ L',Own H' (putAt d π e') v L'∧∀ b∈L',b∈L:=by
 induction π with
 | nil=>
  intro d v L d' v' h a
  unfold At at a
  obtain ⟨rfl,rfl⟩:=a
  exact ⟨L,h,fun b hb=>hb,fun H' e' M' ag o s=>⟨M',by unfold putAt;exact o,s⟩⟩
 | cons stp π ih=>
  intro d v L d' v' h a
  cases stp with
  | f C g=>
   cases d with
   | obj C' fs=>
    unfold At at a
    obtain ⟨rfl,p,dx,fvs,w,e,rfl,h1,he,hw,a⟩:=a
    unfold Own at h
    obtain ⟨p',dx',fvs',M0,e1,h1',h3,h2,n1,n2,rfl⟩:=h
    cases e1
    rw [h1] at h1';cases h1'
    obtain ⟨Me,oe,se,pe⟩:=aT.part h2 he hw
    obtain ⟨M,o,s,q⟩:=ih oe a
    refine ⟨M,o,fun b hb=>List.mem_cons_of_mem _ (List.mem_cons_of_mem _ (se b (s b hb))),fun H' e' M' ag o' s'=>?_⟩
    obtain ⟨Le,ol,sl⟩:=q H' e' M' ag o' s'
    obtain ⟨L',ol',sl'⟩:=pe H' (putAt · π e') Le (fun b hb=>ag b fun z=>hb (s b z)) ol sl
    refine ⟨p::dx::L',?_,fun b hb=>?_⟩
    ·
     unfold putAt Own
     exact ⟨p,dx,fvs,L',rfl,by rw [ag p fun z=>n1 (se _ (s _ z))];exact h1,by rw [ag dx fun z=>n2 (se _ (s _ z))];exact h3,ol',fun z=>n1 (sl' _ z),fun z=>n2 (sl' _ z),rfl⟩
    ·
     rcases List.mem_cons.mp hb with rfl | hb
     ·
      exact List.mem_cons_self
     ·
      rcases List.mem_cons.mp hb with rfl | hb
      ·
       exact List.mem_cons_of_mem _ List.mem_cons_self
      ·
       exact List.mem_cons_of_mem _ (List.mem_cons_of_mem _ (sl' _ hb))
   | _=>unfold At at a;exact a.elim
  | x n=>
   cases d with
   | lst ds=>
    unfold At at a
    obtain ⟨p,vs,w,e,rfl,h1,he,hw,a⟩:=a
    unfold Own at h
    obtain ⟨p',vs',M0,e1,h1',h2,n1,rfl⟩:=h
    cases e1
    rw [h1] at h1';cases h1'
    obtain ⟨Me,oe,se,pe⟩:=aJ.part h2 he hw
    obtain ⟨M,o,s,q⟩:=ih oe a
    refine ⟨M,o,fun b hb=>List.mem_cons_of_mem _ (se b (s b hb)),fun H' e' M' ag o' s'=>?_⟩
    obtain ⟨Le,ol,sl⟩:=q H' e' M' ag o' s'
    obtain ⟨L',ol',sl'⟩:=pe H' (putAt e π e') Le (fun b hb=>ag b fun z=>hb (s b z)) ol sl
    refine ⟨p::L',?_,fun b hb=>?_⟩
    ·
     unfold putAt Own setX
     rw [he]
     exact ⟨p,vs,L',rfl,by rw [ag p fun z=>n1 (se _ (s _ z))];exact h1,ol',fun z=>n1 (sl' _ z),rfl⟩
    ·
     rcases List.mem_cons.mp hb with rfl | hb
     ·
      exact List.mem_cons_self
     ·
      exact List.mem_cons_of_mem _ (sl' _ hb)
   | tup ds=>
    unfold At at a
    obtain ⟨p,vs,w,e,rfl,h1,he,hw,a⟩:=a
    unfold Own at h
    obtain ⟨p',vs',M0,e1,h1',h2,n1,rfl⟩:=h
    cases e1
    rw [h1] at h1';cases h1'
    obtain ⟨Me,oe,se,pe⟩:=aJ.part h2 he hw
    obtain ⟨M,o,s,q⟩:=ih oe a
    refine ⟨M,o,fun b hb=>List.mem_cons_of_mem _ (se b (s b hb)),fun H' e' M' ag o' s'=>?_⟩
    obtain ⟨Le,ol,sl⟩:=q H' e' M' ag o' s'
    obtain ⟨L',ol',sl'⟩:=pe H' (putAt e π e') Le (fun b hb=>ag b fun z=>hb (s b z)) ol sl
    refine ⟨p::L',?_,fun b hb=>?_⟩
    ·
     unfold putAt Own setX
     rw [he]
     exact ⟨p,vs,L',rfl,by rw [ag p fun z=>n1 (se _ (s _ z))];exact h1,ol',fun z=>n1 (sl' _ z),rfl⟩
    ·
     rcases List.mem_cons.mp hb with rfl | hb
     ·
      exact List.mem_cons_self
     ·
      exact List.mem_cons_of_mem _ (sl' _ hb)
   | _=>unfold At at a;exact a.elim
theorem aJ.get {H:Hp}:∀ {ds:List D} {vs:List V} {L:List Addr} {n:Nat} {e:D},aJ H ds vs L→ds[n]?=some e→∃ w,vs[n]?=some w
 | [],_,_,_,_,_,he=>by simp at he
 | d::ds,_,_,0,e,h,he=>by unfold aJ at h;obtain ⟨v,r,A,B,rfl,_⟩:=h;exact ⟨v,rfl⟩
 | d::ds,_,_,n+1,e,h,he=>by
  unfold aJ at h
  obtain ⟨v,r,A,B,rfl,h1,h2,_⟩:=h
  obtain ⟨w,hw⟩:=aJ.get (n:=n) h2 (by simpa using he)
  exact ⟨w,by simpa using hw⟩
theorem aT.get {H:Hp} {g:Str}:∀ {fs:List (Str×D)} {vs:List (Str×V)} {L:List Addr} {e:D},aT H fs vs L→fs.lookup g=some e→∃ w,vs.lookup g=some w
  | [],_,_,_,_,he=>by simp at he
  | (c,d)::fs,_,_,e,h,he=>by
    unfold aT at h
    obtain ⟨v,r,A,B,rfl,h1,h2,_⟩:=h
    rw [List.lookup_cons] at he ⊢
    cases hx:g==c with
    | true=>exact ⟨v,rfl⟩
    | false=>rw [hx] at he;exact aT.get h2 he
theorem At.one {H:Hp} {π:List Stp}:∀ {d:D} {v:V} {L:List Addr} {d' d'':D} {v':V} {st:Stp},Own H d v L→At H d v π d' v'→sub d' [st]=some d''→∃ v'',At H d' v' [st] d'' v''∧At H d v (π++[st]) d'' v'':=by
 induction π with
 | nil=>
  intro d v L d' d'' v' st h a e
  unfold At at a
  obtain ⟨rfl,rfl⟩:=a
  cases st with
  | f C' g=>
   cases d' with
   | obj C fs=>
    unfold sub at e
    by_cases hC:C=C'
    ·
     rw [if_pos hC] at e
     cases el:fs.lookup g with
     | none=>rw [el] at e;cases e
     | some k=>
      rw [el] at e
      have:k=d'':=by simpa [sub] using e
      subst this
      unfold Own at h
      obtain ⟨p,dx,fvs,M,e1,h1,h3,h2,_⟩:=h
      obtain ⟨w,hw⟩:=aT.get h2 el
      have:At H (.obj C fs) v' [.f C' g] k w:=by
       unfold At
       exact ⟨hC,p,dx,fvs,w,k,e1,h1,el,hw,by unfold At;exact ⟨rfl,rfl⟩⟩
      exact ⟨w,this,this⟩
    ·
     rw [if_neg hC] at e;cases e
   | _=>unfold sub at e;cases e
  | x n=>
   cases d' with
   | lst ds=>
    unfold sub at e
    cases el:ds[n]? with
    | none=>rw [el] at e;cases e
    | some k=>
     rw [el] at e
     have:k=d'':=by simpa [sub] using e
     subst this
     unfold Own at h
     obtain ⟨p,vs,M,e1,h1,h2,_⟩:=h
     obtain ⟨w,hw⟩:=aJ.get h2 el
     have:At H (.lst ds) v' [.x n] k w:=by
      unfold At
      exact ⟨p,vs,w,k,e1,h1,el,hw,by unfold At;exact ⟨rfl,rfl⟩⟩
     exact ⟨w,this,this⟩
   | tup ds=>
    unfold sub at e
    cases el:ds[n]? with
    | none=>rw [el] at e;cases e
    | some k=>
     rw [el] at e
     have:k=d'':=by simpa [sub] using e
     subst this
     unfold Own at h
     obtain ⟨p,vs,M,e1,h1,h2,_⟩:=h
     obtain ⟨w,hw⟩:=aJ.get h2 el
     have:At H (.tup ds) v' [.x n] k w:=by
      unfold At
      exact ⟨p,vs,w,k,e1,h1,el,hw,by unfold At;exact ⟨rfl,rfl⟩⟩
     exact ⟨w,this,this⟩
   | _=>unfold sub at e;cases e
 | cons stp π ih=>
  intro d v L d' d'' v' st h a e
  cases stp with
  | f C g=>
   cases d with
   | obj C' fs=>
    unfold At at a
    obtain ⟨rfl,p,dx,fvs,w,k,rfl,h1,he,hw,a⟩:=a
    unfold Own at h
    obtain ⟨p',dx',fvs',M0,e1,h1',h3,h2,n1,n2,rfl⟩:=h
    cases e1
    rw [h1] at h1';cases h1'
    obtain ⟨Me,oe,_⟩:=aT.part h2 he hw
    obtain ⟨v'',a1,a2⟩:=ih oe a e
    refine ⟨v'',a1,?_⟩
    rw [List.cons_append]
    unfold At
    exact ⟨rfl,p,dx,fvs,w,k,rfl,h1,he,hw,a2⟩
   | _=>unfold At at a;exact a.elim
  | x n=>
   cases d with
   | lst ds=>
    unfold At at a
    obtain ⟨p,vs,w,k,rfl,h1,he,hw,a⟩:=a
    unfold Own at h
    obtain ⟨p',vs',M0,e1,h1',h2,n1,rfl⟩:=h
    cases e1
    rw [h1] at h1';cases h1'
    obtain ⟨Me,oe,_⟩:=aJ.part h2 he hw
    obtain ⟨v'',a1,a2⟩:=ih oe a e
    refine ⟨v'',a1,?_⟩
    rw [List.cons_append]
    unfold At
    exact ⟨p,vs,w,k,rfl,h1,he,hw,a2⟩
   | tup ds=>
    unfold At at a
    obtain ⟨p,vs,w,k,rfl,h1,he,hw,a⟩:=a
    unfold Own at h
    obtain ⟨p',vs',M0,e1,h1',h2,n1,rfl⟩:=h
    cases e1
    rw [h1] at h1';cases h1'
    obtain ⟨Me,oe,_⟩:=aJ.part h2 he hw
    obtain ⟨v'',a1,a2⟩:=ih oe a e
    refine ⟨v'',a1,?_⟩
    rw [List.cons_append]
    unfold At
    exact ⟨p,vs,w,k,rfl,h1,he,hw,a2⟩
   | _=>unfold At at a;exact a.elim
theorem sub_f (C C':Addr) (fs:List (Str×D)) (g:Str) (π:List Stp):sub (.obj C fs) (.f C' g::π)=if C=C' then (fs.lookup g).bind (sub · π) else none:=by rw [sub]
theorem sub_l (ds:List D) (n:Nat) (π:List Stp):sub (.lst ds) (.x n::π)=ds[n]?.bind (sub · π):=by rw [sub]
theorem sub_t (ds:List D) (n:Nat) (π:List Stp):sub (.tup ds) (.x n::π)=ds[n]?.bind (sub · π):=by rw [sub]
theorem sub_nil (d:D):sub d []=some d:=by rw [sub]
theorem kA:∀ (π:List Stp) (d:D) (st:Stp),sub d (π++[st])=(sub d π).bind (sub · [st])
 | [],d,st=>by rw [sub_nil];rfl
 | .f C g::π,.obj C' fs,st=>by
  rw [List.cons_append,sub_f,sub_f]
  by_cases h:C'=C
  ·
   rw [if_pos h,if_pos h]
   cases fs.lookup g with
   | none=>rfl
   | some e=>exact kA π e st
  ·
   rw [if_neg h,if_neg h];rfl
 | .x n::π,.lst ds,st=>by
  rw [List.cons_append,sub_l,sub_l]
  cases ds[n]? with
  | none=>rfl
  | some e=>exact kA π e st
 | .x n::π,.tup ds,st=>by
  rw [List.cons_append,sub_t,sub_t]
  cases ds[n]? with
  | none=>rfl
  | some e=>exact kA π e st
 | .f C g::π,.non,st=>rfl
 | .f C g::π,.bl _,st=>rfl
 | .f C g::π,.int _,st=>rfl
 | .f C g::π,.str _,st=>rfl
 | .f C g::π,.lst _,st=>rfl
 | .f C g::π,.tup _,st=>rfl
 | .x n::π,.non,st=>rfl
 | .x n::π,.bl _,st=>rfl
 | .x n::π,.int _,st=>rfl
 | .x n::π,.str _,st=>rfl
 | .x n::π,.obj _ _,st=>rfl
def tP (i:Nat) (π:List Stp):TE:=fun σ H Q=>∃ v d d' L,σ[i]?=some (some v)∧Own H d v L∧sub d π=some d'∧∀ v',At H d v π d' v'→Q v' H
structure DP (X:Cx) (e:Expr) (i:Nat) (π:List Stp):Prop where
 go:PE X e (tP i π)
section
variable {X:Cx} {e:Expr} {i:Nat} {π:List Stp} {pos:Pos}
theorem dp_var {x:Str} (h:PE X (.Name x pos) (jY i)):DP X (.Name x pos) i []:=.mk <| h.weak fun σ H Q ⟨v,d,d',L,hv,o,es,K⟩=>by
 have:d=d':=by simpa [sub] using es
 subst this
 exact ⟨v,hv,K v (by unfold At;exact ⟨rfl,rfl⟩)⟩
theorem dp_fld {C:Addr} {g:Str} (h:DP X e i π) (hk:Cls X.K C∧NoAttr X.K C g) (hb:attributeBase e g X.env (eval e X.env)=eval e X.env:=by rfl):DP X (.Attribute e g pos) i (π++[.f C g]):=.mk <|
 (pe_fld h.go hb).weak fun σ H Q ⟨v,d,d'',L,hv,o,es,K⟩=>by
  rw [kA] at es
  cases e1:sub d π with
  | none=>rw [e1] at es;cases es
  | some d'=>
   rw [e1] at es
   refine ⟨v,d,d',L,hv,o,e1,fun v' a=>?_⟩
   obtain ⟨v'',a1,a2⟩:=At.one o a es
   match d',a1 with
   | .obj C' fs,a1=>
    unfold At at a1
    obtain ⟨rfl,p,dx,fvs,w,k,rfl,h1,he,hw,a1⟩:=a1
    unfold At at a1
    obtain ⟨rfl,rfl⟩:=a1
    exact ⟨p,C',dx,fvs,v'',rfl,h1,hk.1,hk.2,hw,K v'' a2⟩
end
def smut (i:Nat) (π:List Stp) (op:List D→Option (List D)):FS:=fun δ=>match δ[i]? with
 | some (some (.nw d))=>(sub d π).bind fun d'=>match d' with
  | .lst ds=>(op ds).bind fun ds'=>some (.nx (δ.set i (some (.nw (putAt d π (.lst ds'))))))
  | _=>none
 | _=>none
theorem aJ.take {H:Hp}:∀ {ds:List D} {vs:List V} {L:List Addr} (n:Nat),aJ H ds vs L→∃ L',aJ H (ds.take n) (vs.take n) L'∧∀ b∈L',b∈L
 | [],_,_,n,h=>by unfold aJ at h;obtain ⟨rfl,rfl⟩:=h;simp;exact ⟨[],by unfold aJ;exact ⟨rfl,rfl⟩,fun b hb=>by cases hb⟩
 | d::ds,_,_,0,h=>⟨[],by simp;unfold aJ;exact ⟨rfl,rfl⟩,fun b hb=>by cases hb⟩
 | d::ds,_,_,n+1,h=>by
  unfold aJ at h
  obtain ⟨v,r,A,B,rfl,h1,h2,k,rfl⟩:=h
  obtain ⟨L',q1,q2⟩:=aJ.take n h2
  refine ⟨A++L',?_,fun b hb=>?_⟩
  ·
   simp only [List.take_succ_cons]
   unfold aJ
   exact ⟨v,_,A,L',rfl,h1,q1,fun b hb hb'=>k b hb (q2 b hb'),rfl⟩
  ·
   rcases List.mem_append.mp hb with hb | hb
   ·
    exact List.mem_append_left _ hb
   ·
    exact List.mem_append_right _ (q2 b hb)
theorem StR.mut {H0 Hs0 Hs H:Hp} {δ:DSt} {σ:St} {i:Nat} {π:List Stp} {d:D} {ds:List D} {v:V} {l:V} (W:Wd H0 Hs0 Hs H) (S:StR H0 Hs H δ σ) (q:δ[i]?=some (some (.nw d))) (hv:σ[i]?=some (some v)) (a:At H d v π (.lst ds) l) :
  ∃ p vs M,l=.ref p∧H p=some (.lst vs)∧aJ H ds vs M∧∀ ds' vs' M',aJ H ds' vs' M'→(∀ b∈M',b∈M)→Wd H0 Hs0 Hs (L2.upd H p (.lst vs'))∧StR H0 Hs (L2.upd H p (.lst vs')) (δ.set i (some (.nw (putAt d π (.lst ds'))))) σ:=by
 obtain ⟨L,O,nL⟩:=S.rep q hv
 obtain ⟨M1,o1,s1,pt⟩:=Own.part O a
 have o1':=o1
 unfold Own at o1
 obtain ⟨p,vs,M,e1,h1,h2,n,rfl⟩:=o1
 refine ⟨p,vs,M,e1,h1,h2,fun ds' vs' M' o' sM=>?_⟩
 have nM':p∉M':=fun z=>n (sM _ z)
 obtain ⟨L',ol,sl⟩:=pt (L2.upd H p (.lst vs')) (.lst ds') (p::M') (fun b hb=>aH fun z=>hb (by rw [z];exact List.mem_cons_self)) (by
  unfold Own
  exact ⟨p,vs',M',e1,aF,o'.agree _ fun b hb=>aH fun z=>nM' (by rw [←z];exact hb),nM',rfl⟩) (fun b hb=>by
  rcases List.mem_cons.mp hb with rfl | hb
  ·
   exact List.mem_cons_self
  ·
   exact List.mem_cons_of_mem _ (sM b hb))
 have pL:p∈L:=s1 p List.mem_cons_self
 have:=S.upG (Hs':=Hs) (H':=L2.upd H p (.lst vs')) (e':=.nw (putAt d π (.lst ds'))) (v':=v) W q hv (fun b o nb eb=>by
   have:b≠p:=fun z=>nb ⟨L,O,by rw [z];exact pL⟩
   rw [aH this];exact eb) (fun b o eb=>by rw [aH (aR eb (nL p pL))];exact W.sub _ _ eb) (.refl _) (fun _ _ e=>.inl e) ⟨L',ol,fun b hb=>nL b (sl b hb)⟩
   (fun b ⟨L'',f,hb⟩=>.inl ⟨L,O,by rw [Own.uniq _ f ol] at hb;exact sl b hb⟩)
 rw [set_same hv] at this
 exact this
section
variable {X:Cx} {e o:Expr} {i:Nat} {π:List Stp} {pos apos cpos:Pos}
def mi (ds:List D):Option (List D):=if ds=[] then none else some ds.dropLast
theorem ds_mpop (h:DP X o i π) (hbase:attributeBase o "pop" X.env (eval o X.env)=eval o X.env:=by rfl) (hline:(apos.endLine==cpos.line)=true:=by rfl)
  (hsw:swapsWith (.Call (.Attribute o "pop" apos) [] [] cpos) none pos.line X.env=pure false:=by rfl):DS X (.Expr (.Call (.Attribute o "pop" apos) [] [] cpos) pos) (smut i π mi):=.mk fun H0 Hs0=>
 (iA (pe_bm0 PySem.F.plainAttrs_list PySem.F.slot_list_pop PySem.F.type_list_pop mt_pop h.go hbase hline) hsw).weak fun D σ H ⟨Hs,δ,res,W,S,e,P⟩=>by
  unfold smut at e
  cases q:δ[i]? with
  | none=>rw [q] at e;cases e
  | some z=>
   rw [q] at e
   match z,e with
   | some (.nw d),e=>
    obtain ⟨v,hv,L,O,nL⟩:=S.ent i _ q
    cases es:sub d π with
    | none=>simp only [es] at e;cases e
    | some d'=>
     simp only [es,Option.bind] at e
     match d',e,es with
     | .lst ds,e,es=>
      refine ⟨v,d,_,L,hv,O,es,fun v' a=>?_⟩
      obtain ⟨p,vs,M,rfl,h1,h2,K⟩:=S.mut W q hv a
      refine ⟨.inl ⟨rfl,vs,.of h1⟩,?_⟩
      by_cases hd:ds=[]
      ·
       simp only [mi,if_pos hd] at e;cases e
      ·
       simp only [mi,if_neg hd] at e
       cases e
       have hlen:=h2.length
       have hpos:0<vs.length:=by rw [hlen];exact List.length_pos_iff.mpr hd
       have hy:vs[vs.length-1]?=some vs[vs.length-1]:=List.getElem?_eq_getElem (by omega)
       obtain ⟨M',o',sM⟩:=h2.take (ds.length-1)
       have ed:ds.take (ds.length-1)=ds.dropLast:=(List.dropLast_eq_take ..).symm
       have ev:vs.take (ds.length-1)=vs.dropLast:=by rw [←hlen];exact (List.dropLast_eq_take ..).symm
       rw [ed,ev] at o'
       obtain ⟨W1,S1⟩:=K _ _ _ o' sM
       exact ⟨p,vs,_,rfl,rfl,h1,hy,P σ Hs _ W1 S1⟩
def iV (ds:List D):Option (List D):=some []
theorem ds_mclear (h:DP X o i π) (hbase:attributeBase o "clear" X.env (eval o X.env)=eval o X.env:=by rfl) (hline:(apos.endLine==cpos.line)=true:=by rfl)
  (hsw:swapsWith (.Call (.Attribute o "clear" apos) [] [] cpos) none pos.line X.env=pure false:=by rfl):DS X (.Expr (.Call (.Attribute o "clear" apos) [] [] cpos) pos) (smut i π iV):=.mk fun H0 Hs0=>
 (iA (pe_bm0 PySem.F.plainAttrs_list PySem.F.slot_list_clear PySem.F.type_list_clear mt_clear h.go hbase hline) hsw).weak fun D σ H ⟨Hs,δ,res,W,S,e,P⟩=>by
  unfold smut at e
  cases q:δ[i]? with
  | none=>rw [q] at e;cases e
  | some z=>
   rw [q] at e
   match z,e with
   | some (.nw d),e=>
    obtain ⟨v,hv,L,O,nL⟩:=S.ent i _ q
    cases es:sub d π with
    | none=>simp only [es] at e;cases e
    | some d'=>
     simp only [es,Option.bind] at e
     match d',e,es with
     | .lst ds,e,es=>
      refine ⟨v,d,_,L,hv,O,es,fun v' a=>?_⟩
      obtain ⟨p,vs,M,rfl,h1,h2,K⟩:=S.mut W q hv a
      refine ⟨.inl ⟨rfl,vs,.of h1⟩,?_⟩
      simp only [iV] at e
      cases e
      obtain ⟨W1,S1⟩:=K [] [] [] (by unfold aJ;exact ⟨rfl,rfl⟩) (fun b hb=>by cases hb)
      exact ⟨p,vs,rfl,rfl,h1,P σ Hs _ W1 S1⟩
end
end Ew
end
section
set_option Elab.async false
set_option linter.all false
set_option maxRecDepth 100000
namespace Ew
open PySem PySem.Spec L2
section
variable {X:Cx} {e:Expr} {es:List Expr} {fr:DSt→Option (List R)} {x:Str} {p pos:Pos} {id T:String}
theorem dn_u {qual:Str} {st:Stmt} {ps:List Str} {f:Addr} {fd:FuncData} {k n:Nat} {m:List D→Option D} (d:Df X.K X.mg x qual st ps f fd) (G:dY X.prog X.w X.K X.mg X.base CX0 k f fd ps (spN n m)) (hr:bC k X.A) (ha:DA X (e::es) fr)
 (hg:Gl X x:=by rfl) (hdb:(x==("__debug__" : Str))=false:=by decide) (he:starEach (e::es) X.env=(false,eval e X.env)::starEach es X.env:=by exact bP rfl) (hpl:(backTo pos (starEach es X.env)).any (·.1)=false:=by rfl) :
 DN X (.Call (.Name x p) (e::es) [] pos) (jM n m fr):=.mk <| (mK (E:=E0) G hr hg d.mgx d.fn.kp d.bd .nil lU ha.go hdb he hpl).weak fun _ _ _=>tN_call
theorem dn_mk {C f:Addr} {fd:FuncData} {ps:List Str} {k n:Nat} {m:List D→Option (List (Str×D))} (M:Mk X.K C f) (G:dY X.prog X.w X.K X.mg X.base CX0 k f fd ps (spIN C n m)) (hb:Binds X.K fd ps []) (hm:X.mg x=some (.ref C)) (hr:bC (k+1) X.A) (ha:DA X (e::es) fr)
 (hg:Gl X x:=by rfl) (hdb:(x==("__debug__" : Str))=false:=by decide) (he:starEach (e::es) X.env=(false,eval e X.env)::starEach es X.env:=by exact bP rfl) (hpl:(backTo pos (starEach es X.env)).any (·.1)=false:=by rfl) :
 DN X (.Call (.Name x p) (e::es) [] pos) (f6 C n m fr):=.mk <| (pe_make (E:=E0) M G hr hg hm hb .nil lU ha.go hdb he hpl).weak fun _ _ _=>tN_make
end
section
variable {δ:DSt} {f:FE} {g h:FN} {gs:DSt→Option (List D)} {fr:DSt→Option (List R)} {t:DSt→Option Bool} {F G:FS}
@[simp] theorem nflat_e:fz f δ=(f δ).bind R.toN:=rfl
@[simp] theorem toN_sh (d:D):(R.sh d).toN=if d.flat=true then some d else none:=rfl
@[simp] theorem toN_fr (ds:List D):(R.fr ds).toN=if ds.all D.flat=true then some (.lst ds) else none:=rfl
@[simp] theorem dnw_e:dnw g δ=(g δ).map .sh:=rfl
@[simp] theorem nanil_e:md δ=some []:=rfl
@[simp] theorem nacons_e:eI g gs δ=(g δ).bind fun d=>(gs δ).bind fun ds=>some (d::ds):=rfl
@[simp] theorem ntup_e:ntup gs δ=(gs δ).bind fun ds=>if ds.length≤big then some (.tup ds) else none:=rfl
@[simp] theorem nlst_e:nlst gs δ=(gs δ).bind fun ds=>if ds.length≤big then some (.lst ds) else none:=rfl
@[simp] theorem nif_e:nif t g h δ=(t δ).bind fun k=>if k=true then g δ else h δ:=rfl
@[simp] theorem ncall_e (n:Nat) (m:List D→Option D):jM n m fr δ=(fr δ).bind fun rs=>if rs.length=n∧de rs=true then m (rs.map R.view) else none:=rfl
@[simp] theorem nmake_e (C:Addr) (n:Nat) (m:List D→Option (List (Str×D))):f6 C n m fr δ=(fr δ).bind fun rs=>if rs.length=n∧de rs=true then (m (rs.map R.view)).map (.obj C) else none:=rfl
@[simp] theorem ssetN_e (i:Nat):iT i g δ=(g δ).bind fun d=>some (.nx (δ.set i (some (.nw d)))):=rfl
@[simp] theorem sretN_e:me g δ=(g δ).bind fun d=>some (.rn d):=rfl
@[simp] theorem ncomp_e (fi:DSt→Option (List D)) (g:GD) (c:DSt→Option Bool) (fe:FN) (m:Nat) (ix:List Nat):kS fi g c fe m ix δ=(fi δ).bind fun items=>if items.length≤big then (cM g c fe (dIn m ix δ) items).map .lst else none:=rfl
@[simp] theorem runN_e (k:Nat) (F:FS) (ds:List D):runN k F ds=match F (ds.map (fun d=>some (.sh d))++List.replicate (k-ds.length) none) with
 | some (.rt r)=>r.toN
 | some (.nx _)=>some .non
 | some (.rn d)=>some d
 | _=>none:=rfl
@[simp] theorem sfldN_e (C C' a:Addr) (f:Str) (fs:List (Str×D)) (r:DSt):mf C f g (some (.on a (.obj C' fs))::r)=if C'=C∧fs.length<1000∧fs.lookup f=none then (g (some (.on a (.obj C' fs))::r)).bind fun d=>some (.nx (some (.on a (.obj C (fs++[(f,d)])))::r)) else none:=rfl
@[simp] theorem sifB_e (i:Nat):dN i t F G δ=(t (frz i δ)).bind fun b=>if b=true then F δ else G δ:=rfl
theorem oh (g:GD) (c:DSt→Option Bool) (fe:FN) (δ:DSt) {α:Type} (enc:α→D) (p:α→Bool) (out:α→D) (xs:List α)
  (h:∀ x∈xs,∃ δ1,g (enc x) δ=some δ1∧c δ1=some (p x)∧(p x=true→fe δ1=some (out x))) :
  cM g c fe δ (xs.map enc)=some ((xs.filter p).map out):=by
 induction xs with
 | nil=>rfl
 | cons x xs ih=>
  obtain ⟨δ1,h1,h2,h3⟩:=h x List.mem_cons_self
  have ih:=ih fun y hy=>h y (List.mem_cons_of_mem _ hy)
  rw [List.map_cons]
  unfold cM
  rw [h1]
  show ((c δ1).bind fun b=>if b=true then (fe δ1).bind fun r1=>(cM g c fe δ (xs.map enc)).bind fun t=>some (r1::t) else cM g c fe δ (xs.map enc))=_
  rw [h2]
  show (if p x=true then (fe δ1).bind fun r1=>(cM g c fe δ (xs.map enc)).bind fun t=>some (r1::t) else cM g c fe δ (xs.map enc))=_
  by_cases hp:p x=true
  ·
   rw [if_pos hp,h3 hp,ih]
   simp [hp,List.filter_cons]
  ·
   rw [if_neg hp,ih]
   simp [hp,List.filter_cons]
end
end Ew
end
section
open PyProof.Rows PySem PySem.Spec
set_option maxRecDepth 100000
set_option linter.all false
set_option Elab.async false
namespace Ew
theorem zip3_type (a b c:Value):checkTypeCall "zip" { pos:=[a,b,c] }=pure ():=by rfl
theorem zip3_new (a b c:Value):checkBuiltinCall "zip.__new__" { pos:=[Value.type "zip",a,b,c] }=pure ():=by with_unfolding_all rfl
abbrev j7 (f0:Value) (f1:Bool) (TI TO:Addr):Obj:={ cls:=Value.type "zip",data:=Data.fields #[f0,Value.bool f1,Value.bool false,Value.ref TI,Value.ref TO] }
abbrev dB (vs:List Value):Obj:={ cls:=Value.type "tuple",data:=Data.seq vs.toArray }
abbrev itO (l:Addr) (i:Nat):Obj:={ cls:=Value.type "list_iterator",data:=Data.fields #[Value.ref l,Value.int i 0] }
abbrev kB (h:Heap) (l1 l2 l3:Addr):Heap:=(((((h.push (itO l1 0)).push (itO l2 0)).push (itO l3 0)).push (dB [.ref h.objs.size,.ref (h.objs.size+1),.ref (h.objs.size+2)])).push (dB [.none,.none,.none])).push (j7 .none false (h.objs.size+3) (h.objs.size+4))
theorem pi (l1 l2 l3:Addr) (xs ys zs:Array Value) :
  Meets (Builtin.«zip.__new__» { pos:=[Value.type "zip",Value.ref l1,Value.ref l2,Value.ref l3] }) fun A R s=>
   s.heap.IsList l1 xs∧s.heap.IsList l2 ys∧s.heap.IsList l3 zs∧
    R (Except.ok (Flow.ret (Value.ref (s.heap.objs.size+5)))) { s with heap:=kB s.heap l1 l2 l3 }:=by
 refine Meets.of_wp fun prog w A R s ⟨h1,h2,h3,hR⟩=>?_
 unfold Builtin.«zip.__new__»
 refine wpAny_bind ?_
 unfold Builtin.SmallTypes.newClass
 refine wpAny_bind (wpAny_of_eq (a:=true) rfl ?_)
 refine wpAny_ite_false rfl ?_
 refine wpAny_bind (wpAny_of_eq sub_zip ?_)
 refine wpAny_ite_false rfl ?_
 refine wpAny_pure ?_
 refine wpAny_ite_false rfl ?_
 refine wpAny_bind ?_
 unfold Builtin.SmallTypes.iterAll
 simp only [List.forIn_cons,List.forIn_nil]
 refine wpAny_bind (wpAny_bind (wpAny_bind (wpAny_holding (wpAny_pyIter_list h1 (wpAny_pure ?_)))))
 refine (wpAny_bind (wpAny_bind (wpAny_holding (wpAny_pyIter_list (h2.push _) (wpAny_pure ?_)))))
 refine (wpAny_bind (wpAny_bind (wpAny_holding (wpAny_pyIter_list ((h3.push _).push _) (wpAny_pure ?_)))))
 refine wpAny_pure (wpAny_pure ?_)
 refine wpAny_bind (wpAny_newTuple ?_ (by simp [PySem.sizeLine_eq]))
 refine wpAny_bind (wpAny_newTuple ?_ (by simp [PySem.sizeLine_eq]))
 refine wpAny_bind ?_
 unfold Builtin.SmallTypes.newRecord newObj
 refine wpAny_ite_false (decide_eq_false (by rw [PySem.sizeLine_eq];simp [Builtin.SmallTypes.ownedTupleFields])) ?_
 refine wpAny_bind (wpAny_alloc ?_)
 refine wpAny_pure (wpAny_pure ⟨_,rfl,?_⟩)
 simp only [Heap.size_push]
 exact hR
theorem call_zip3 {prog:Program} {w:World} {A:Around} {E:Value→Shared→Prop} {s:Shared} {l1 l2 l3:Addr} {xs ys zs:Array Value} {Q:Value→Shared→Prop}
  (h1:s.heap.IsList l1 xs) (h2:s.heap.IsList l2 ys) (h3:s.heap.IsList l3 zs)
  (k:Q (Value.ref (s.heap.objs.size+5)) { s with heap:=kB s.heap l1 l2 l3 }) :
  wpAny (model prog w) A (call (Value.type "zip") [Value.ref l1,Value.ref l2,Value.ref l3]) Q E s:=by
 refine callType_new F.called_zip (by decide) (zip3_type _ _ _) (zip3_new _ _ _) (fun obj=>by first | exact PySem.F.args_object_init_4 _ _ _ _ | trivial) F.entry_zip_new (pi l1 l2 l3 xs ys zs) ⟨h1,h2,h3,?_⟩
 refine ⟨?_,k⟩
 have:=Heap.get?_push_size ((((((s.heap.push (itO l1 0)).push (itO l2 0)).push (itO l3 0)).push (dB [.ref s.heap.objs.size,.ref (s.heap.objs.size+1),.ref (s.heap.objs.size+2)])).push (dB [.none,.none,.none]))) (o:=j7 .none false (s.heap.objs.size+3) (s.heap.objs.size+4)) rfl
 exact ⟨_,by simpa [Heap.size_push] using this,rfl⟩
end Ew
open PyProof.Rows PySem PySem.Spec
set_option maxRecDepth 100000
set_option linter.all false
set_option Elab.async false
namespace Ew
structure Zs (h:Heap) (N l1 l2 l3 k:Nat) (f0:Value) (f1:Bool):Prop where
 z:h.get? (N+5)=some (j7 f0 f1 (N+3) (N+4))
 ti:h.get? (N+3)=some (dB [.ref N,.ref (N+1),.ref (N+2)])
 to:∃ a b c,h.get? (N+4)=some (dB [a,b,c])
 i1:h.IsListIter N l1 k
 i2:h.IsListIter (N+1) l2 k
 i3:h.IsListIter (N+2) l3 k
def Off (N:Nat) (c:Nat):Prop:=c<N∨N+5<c
theorem oi {M:Model} {A:Around} {E:Value→Shared→Prop} {s:Shared} {a:Addr} {Q:Option Obj→Shared→Prop} (h:Q (s.heap.get? a) s):wpAny M A (loadIfAlive a) Q E s:=by
 intro Γ p hΓ
 unfold loadIfAlive
 rw [Sem.wp_loadIfAlive]
 exact wpAny_pure (M:=M) (A:=A) (E:=E) h Γ p hΓ
theorem thn3 {α:Type} {t:Sem α} {Q Q':α→Shared→Prop} {M:Model} {A:Around} {E:Value→Shared→Prop} {s:Shared} (h:wpAny M A t Q E s) (hQ:∀ a s,Q a s→Q' a s):wpAny M A t Q' E s:=wpAny_mono h hQ fun _ _ x=>x
theorem next3_nf {prog:Program} {w:World} {A:Around} {E:Value→Shared→Prop} {s:Shared} {N l1 l2 l3 k:Nat} {a:Addr} {o:Obj} {f1:Bool} {xs ys zs:Array Value} {x y v:Value} {Q:Value→Shared→Prop}
  (Z:Zs s.heap N l1 l2 l3 k (rawInt a) f1) (ha:s.heap.get? a=some o) (h1:s.heap.IsList l1 xs) (h2:s.heap.IsList l2 ys) (h3:s.heap.IsList l3 zs) (b1:l1<N) (b2:l2<N) (b3:l3<N)
  (hx:xs[k]?=some x) (hy:ys[k]?=some y) (hv:zs[k]?=some v)
  (K:∀ h':Heap,Zs h' N l1 l2 l3 (k+1) (rawInt a) true→h'.get? s.heap.objs.size=some (dB [x,y,v])→h'.objs.size=s.heap.objs.size+1→(∀ (c:Nat) (o:Obj),Off N c→s.heap.get? c=some o→h'.get? c=some o)→Q (Value.ref s.heap.objs.size) { s with heap:=h' }) :
  wpAny (model prog w) A (Builtin.«zip.__next__» { pos:=[Value.ref (N+5)] }) (fun fin s'=>∃ v,fin=Fin.done (Flow.ret v)∧Q v s') E s:=by
 unfold Builtin.«zip.__next__»
 refine wpAny_bind (wpAny_of_eq (a:=(Value.ref (N+5),[])) rfl ?_)
 refine wpAny_bind (wpAny_field (x:=Value.bool false) Z.z rfl rfl ?_)
 refine wpAny_bind (wpAny_field (x:=Value.ref (N+3)) Z.z rfl rfl ?_)
 refine wpAny_bind (wpAny_seqItems Z.ti rfl ?_)
 refine wpAny_ite_false rfl ?_
 refine wpAny_bind ?_
 unfold Builtin.SmallTypes.ownedTupleIsFree
 refine wpAny_bind (wpAny_field (x:=rawInt a) Z.z rfl rfl ?_)
 refine wpAny_bind (oi ?_)
 rw [show ((a:Int).toNat)=a from rfl,ha]
 refine wpAny_ite_false rfl ?_
 refine wpAny_bind (wpAny_field (x:=Value.bool f1) Z.z rfl rfl ?_)
 refine thn3 (Q:=fun b s'=>b=false∧∃ h0:Heap,s'={ s with heap:=h0 }∧Zs h0 N l1 l2 l3 k (rawInt a) true∧h0.objs.size=s.heap.objs.size∧∀ c,c≠N+5→h0.get? c=s.heap.get? c) ?_ ?_
 ·
  cases f1 with
  | true=>exact wpAny_ite_false rfl (wpAny_pure ⟨rfl,s.heap,rfl,Z,rfl,fun _ _=>rfl⟩)
  | false=>
   refine wpAny_ite_true rfl (wpAny_bind (wpAny_setField Z.z rfl (by simp) (wpAny_pure ⟨rfl,_,rfl,?_,?_,?_⟩)))
   ·
    have hk:∀ c,c≠N+5→(s.heap.update (N+5) (Obj.mapFields fun x_1=>x_1.setIfInBounds 1 (Value.bool true))).get? c=s.heap.get? c:=fun c hc=>Heap.get?_update_other _ _ (Ne.symm hc)
    refine ⟨Heap.get?_update_self _ Z.z rfl,?_,?_,Z.i1.at fun o e=>?_,Z.i2.at fun o e=>?_,Z.i3.at fun o e=>?_⟩
    ·
     rw [hk _ (by omega)];exact Z.ti
    ·
     obtain ⟨p,q,r,e⟩:=Z.to
     exact ⟨p,q,r,by rw [hk _ (by omega)];exact e⟩
    ·
     rw [hk _ (by omega)];exact e
    ·
     rw [hk _ (by omega)];exact e
    ·
     rw [hk _ (by omega)];exact e
   ·
    exact Heap.size_update _ _ _
   ·
    exact fun c hc=>Heap.get?_update_other _ _ (Ne.symm hc)
 ·
  rintro b s0 ⟨rfl,h0,rfl,Z0,hs0,hk0⟩
  refine wpAny_ite_false rfl ?_
  simp only [List.forIn_toArray,List.forIn_cons,List.forIn_nil]
  refine wpAny_bind (wpAny_bind (wpAny_bind (wpAny_holding (wpAny_ite_false rfl (wpAny_bind (wpAny_nextOf_list_item Z0.i1 (h1.at fun o e=>by rw [hk0 _ (by omega)];exact e) hx fun g1 j1 sb1=>wpAny_pure ?_))))))
  refine wpAny_pure ?_
  have sb1:g1.objs.size=h0.objs.size∧∀ c:Nat,c≠N→g1.get? c=h0.get? c:=sb1
  have e1:∀ c:Nat,c≠N+5→c≠N→g1.get? c=s.heap.get? c:=fun c c1 c2=>by rw [sb1.2 c c2];exact hk0 c c1
  refine wpAny_bind (wpAny_bind (wpAny_holding (wpAny_ite_false rfl (wpAny_bind (wpAny_nextOf_list_item (Z0.i2.at fun o e=>by rw [sb1.2 _ (by omega)];exact e) (h2.at fun o e=>by rw [e1 _ (by omega) (by omega)];exact e) hy fun g2 j2 sb2=>wpAny_pure (wpAny_pure ?_))))))
  have sb2:g2.objs.size=g1.objs.size∧∀ c:Nat,c≠N+1→g2.get? c=g1.get? c:=sb2
  have e2:∀ c:Nat,c≠N+5→c≠N→c≠N+1→g2.get? c=s.heap.get? c:=fun c c1 c2 c3=>by rw [sb2.2 c c3];exact e1 c c1 c2
  refine wpAny_bind (wpAny_bind (wpAny_holding (wpAny_ite_false rfl (wpAny_bind (wpAny_nextOf_list_item (Z0.i3.at fun o e=>by rw [sb2.2 _ (by omega)];rw [sb1.2 _ (by omega)];exact e) (h3.at fun o e=>by rw [e2 _ (by omega) (by omega) (by omega)];exact e) hv fun g3 j3 sb3=>wpAny_pure (wpAny_pure ?_))))))
  have sb3:g3.objs.size=g2.objs.size∧∀ c:Nat,c≠N+2→g3.get? c=g2.get? c:=sb3
  have e3:∀ c:Nat,c≠N+5→c≠N→c≠N+1→c≠N+2→g3.get? c=s.heap.get? c:=fun c c1 c2 c3 c4=>by rw [sb3.2 c c4];exact e2 c c1 c2 c3
  refine wpAny_pure ?_
  have hz:g3.objs.size=s.heap.objs.size:=by rw [sb3.1,sb2.1,sb1.1];exact hs0
  refine wpAny_bind (wpAny_newTuple ?_ (by simp [PySem.sizeLine_eq]))
  refine wpAny_pure ⟨_,rfl,?_⟩
  rw [hz]
  have hp:∀ c o,g3.get? c=some o→(g3.push (dB [x,y,v])).get? c=some o:=fun c o e=>Heap.get?_push_of_some _ e
  refine K _ ⟨?_,?_,?_,?_,?_,?_⟩ ?_ ?_ ?_
  ·
   refine hp _ _ ?_
   rw [sb3.2 _ (by omega),sb2.2 _ (by omega),sb1.2 _ (by omega)];exact Z0.z
  ·
   refine hp _ _ ?_
   rw [e3 _ (by omega) (by omega) (by omega) (by omega)];exact Z.ti
  ·
   obtain ⟨p,q,r,e⟩:=Z.to
   refine ⟨p,q,r,hp _ _ ?_⟩
   rw [e3 _ (by omega) (by omega) (by omega) (by omega)];exact e
  ·
   refine j1.at fun o e=>hp _ _ ?_
   rw [sb3.2 _ (by omega),sb2.2 _ (by omega)];exact e
  ·
   refine j2.at fun o e=>hp _ _ ?_
   rw [sb3.2 _ (by omega)];exact e
  ·
   exact j3.at fun o e=>hp _ _ e
  ·
   rw [←hz];exact Heap.get?_push_size _ rfl
  ·
   rw [Heap.size_push,hz]
  ·
   intro c o hc e
   refine hp _ _ ?_
   unfold Off at hc
   rw [e3 c (by omega) (by omega) (by omega) (by omega)];exact e
end Ew
open PyProof.Rows PySem PySem.Spec
set_option maxRecDepth 100000
set_option linter.all false
set_option Elab.async false
namespace Ew
theorem aV {h:Heap} {a b:Nat} {f:Obj→Obj} (hc:b≠a):(h.update a f).get? b=h.get? b:=Heap.get?_update_other _ _ (Ne.symm hc)
theorem next3_fr {prog:Program} {w:World} {A:Around} {E:Value→Shared→Prop} {s:Shared} {N l1 l2 l3 k:Nat} {xs ys zs:Array Value} {x y v:Value} {Q:Value→Shared→Prop}
  (Z:Zs s.heap N l1 l2 l3 k .none false) (h1:s.heap.IsList l1 xs) (h2:s.heap.IsList l2 ys) (h3:s.heap.IsList l3 zs) (b1:l1<N) (b2:l2<N) (b3:l3<N)
  (hx:xs[k]?=some x) (hy:ys[k]?=some y) (hv:zs[k]?=some v)
  (K:∀ h':Heap,Zs h' N l1 l2 l3 (k+1) (rawInt s.heap.objs.size) false→h'.get? s.heap.objs.size=some (dB [x,y,v])→h'.objs.size=s.heap.objs.size+1→(∀ (c:Nat) (o:Obj),Off N c→s.heap.get? c=some o→h'.get? c=some o)→Q (Value.ref s.heap.objs.size) { s with heap:=h' }) :
  wpAny (model prog w) A (Builtin.«zip.__next__» { pos:=[Value.ref (N+5)] }) (fun fin s'=>∃ v,fin=Fin.done (Flow.ret v)∧Q v s') E s:=by
 have hlt:N+5<s.heap.objs.size:=Heap.lt_size Z.z
 unfold Builtin.«zip.__next__»
 refine wpAny_bind (wpAny_of_eq (a:=(Value.ref (N+5),[])) rfl ?_)
 refine wpAny_bind (wpAny_field (x:=Value.bool false) Z.z rfl rfl ?_)
 refine wpAny_bind (wpAny_field (x:=Value.ref (N+3)) Z.z rfl rfl ?_)
 refine wpAny_bind (wpAny_seqItems Z.ti rfl ?_)
 refine wpAny_ite_false rfl ?_
 refine wpAny_bind ?_
 unfold Builtin.SmallTypes.ownedTupleIsFree
 refine wpAny_bind (wpAny_field (x:=Value.none) Z.z rfl rfl (wpAny_pure ?_))
 refine wpAny_ite_true rfl ?_
 refine wpAny_bind (wpAny_rule ?_)
 refine wpAny_bind (wpAny_field (x:=Value.ref (N+4)) Z.z rfl rfl ?_)
 refine wpAny_bind (wpAny_setField Z.z rfl (by simp) ?_)
 obtain ⟨p,q,r,hto⟩:=Z.to
 generalize hg0:s.heap.update (N+5) (Obj.mapFields fun x_1=>x_1.setIfInBounds 0 Value.ellipsis)=g0
 have k0:∀ c:Nat,c≠N+5→g0.get? c=s.heap.get? c:=fun c hc=>by rw [←hg0];exact aV hc
 have z0:g0.get? (N+5)=some (j7 Value.ellipsis false (N+3) (N+4)):=by rw [←hg0];exact Heap.get?_update_self _ Z.z rfl
 have s0:g0.objs.size=s.heap.objs.size:=by rw [←hg0];exact Heap.size_update _ _ _
 simp only [List.zipIdx_cons,List.zipIdx_nil,List.forIn_cons,List.forIn_nil]
 refine wpAny_bind (wpAny_bind (wpAny_bind (wpAny_onRaise (wpAny_ite_false rfl (wpAny_bind (wpAny_nextOf_list_item (Z.i1.at fun o e=>by rw [k0 _ (by omega)];exact e) (h1.at fun o e=>by rw [k0 _ (by omega)];exact e) hx fun g1 j1 sb1=>wpAny_pure ?_))))))
 have sb1:g1.objs.size=g0.objs.size∧∀ c:Nat,c≠N→g1.get? c=g0.get? c:=sb1
 have t1:g1.get? (N+4)=some (dB [p,q,r]):=by rw [sb1.2 _ (by omega),k0 _ (by omega)];exact hto
 refine wpAny_bind (wpAny_seqItems t1 rfl (wpAny_bind (wpAny_updateSeq t1 rfl ?_ (by simp [PySem.sizeLine_eq]) (by simp [PySem.sizeLine_eq]))))
 refine wpAny_bind (wpAny_letGo (wpAny_pure ?_))
 generalize hg2:g1.update (N+4) _=g2
 have k2:∀ c:Nat,c≠N+5→c≠N→c≠N+4→g2.get? c=s.heap.get? c:=fun c c1 c2 c3=>by rw [←hg2,aV c3,sb1.2 c c2];exact k0 c c1
 have z2:g2.get? (N+5)=some (j7 Value.ellipsis false (N+3) (N+4)):=by rw [←hg2,aV (by omega),sb1.2 _ (by omega)];exact z0
 have t2:g2.get? (N+4)=some (dB [x,q,r]):=by rw [←hg2];exact Heap.get?_update_self _ t1 rfl
 have i2:g2.IsListIter N l1 (k+1):=j1.at fun o e=>by rw [←hg2,aV (by omega)];exact e
 have s2:g2.objs.size=s.heap.objs.size:=by rw [←hg2,Heap.size_update,sb1.1,s0]
 refine wpAny_bind (wpAny_bind (wpAny_onRaise (wpAny_ite_false rfl (wpAny_bind (wpAny_nextOf_list_item (Z.i2.at fun o e=>by rw [k2 _ (by omega) (by omega) (by omega)];exact e) (h2.at fun o e=>by rw [k2 _ (by omega) (by omega) (by omega)];exact e) hy fun g3 j3 sb3=>wpAny_pure ?_)))))
 have sb3:g3.objs.size=g2.objs.size∧∀ c:Nat,c≠N+1→g3.get? c=g2.get? c:=sb3
 have t3:g3.get? (N+4)=some (dB [x,q,r]):=by rw [sb3.2 _ (by omega)];exact t2
 refine wpAny_bind (wpAny_seqItems t3 rfl (wpAny_bind (wpAny_updateSeq t3 rfl ?_ (by simp [PySem.sizeLine_eq]) (by simp [PySem.sizeLine_eq]))))
 refine wpAny_bind (wpAny_letGo (wpAny_pure ?_))
 generalize hg4:g3.update (N+4) _=g4
 have k4:∀ c:Nat,c≠N+5→c≠N→c≠N+4→c≠N+1→g4.get? c=s.heap.get? c:=fun c c1 c2 c3 c4=>by rw [←hg4,aV c3,sb3.2 c c4];exact k2 c c1 c2 c3
 have z4:g4.get? (N+5)=some (j7 Value.ellipsis false (N+3) (N+4)):=by rw [←hg4,aV (by omega),sb3.2 _ (by omega)];exact z2
 have t4:g4.get? (N+4)=some (dB [x,y,r]):=by rw [←hg4];exact Heap.get?_update_self _ t3 rfl
 have i4:g4.IsListIter N l1 (k+1):=i2.at fun o e=>by rw [←hg4,aV (by omega),sb3.2 _ (by omega)];exact e
 have i4':g4.IsListIter (N+1) l2 (k+1):=j3.at fun o e=>by rw [←hg4,aV (by omega)];exact e
 have s4:g4.objs.size=s.heap.objs.size:=by rw [←hg4,Heap.size_update,sb3.1,s2]
 refine wpAny_bind (wpAny_bind (wpAny_onRaise (wpAny_ite_false rfl (wpAny_bind (wpAny_nextOf_list_item (Z.i3.at fun o e=>by rw [k4 _ (by omega) (by omega) (by omega) (by omega)];exact e) (h3.at fun o e=>by rw [k4 _ (by omega) (by omega) (by omega) (by omega)];exact e) hv fun g5 j5 sb5=>wpAny_pure ?_)))))
 have sb5:g5.objs.size=g4.objs.size∧∀ c:Nat,c≠N+2→g5.get? c=g4.get? c:=sb5
 have t5:g5.get? (N+4)=some (dB [x,y,r]):=by rw [sb5.2 _ (by omega)];exact t4
 refine wpAny_bind (wpAny_seqItems t5 rfl (wpAny_bind (wpAny_updateSeq t5 rfl ?_ (by simp [PySem.sizeLine_eq]) (by simp [PySem.sizeLine_eq]))))
 refine wpAny_bind (wpAny_letGo (wpAny_pure (wpAny_pure ?_)))
 generalize hg6:g5.update (N+4) _=g6
 have k6:∀ c:Nat,c≠N+5→c≠N→c≠N+4→c≠N+1→c≠N+2→g6.get? c=s.heap.get? c:=fun c c1 c2 c3 c4 c5=>by rw [←hg6,aV c3,sb5.2 c c5];exact k4 c c1 c2 c3 c4
 have z6:g6.get? (N+5)=some (j7 Value.ellipsis false (N+3) (N+4)):=by rw [←hg6,aV (by omega),sb5.2 _ (by omega)];exact z4
 have t6:g6.get? (N+4)=some (dB [x,y,v]):=by rw [←hg6];exact Heap.get?_update_self _ t5 rfl
 have i6:g6.IsListIter N l1 (k+1):=i4.at fun o e=>by rw [←hg6,aV (by omega),sb5.2 _ (by omega)];exact e
 have i6':g6.IsListIter (N+1) l2 (k+1):=i4'.at fun o e=>by rw [←hg6,aV (by omega),sb5.2 _ (by omega)];exact e
 have i6'':g6.IsListIter (N+2) l3 (k+1):=j5.at fun o e=>by rw [←hg6,aV (by omega)];exact e
 have s6:g6.objs.size=s.heap.objs.size:=by rw [←hg6,Heap.size_update,sb5.1,s4]
 refine wpAny_bind (wpAny_seqItems t6 rfl ?_)
 refine wpAny_bind (wpAny_newTuple ?_ (by simp [PySem.sizeLine_eq]))
 have hp:∀ c o,g6.get? c=some o→(g6.push (dB [x,y,v])).get? c=some o:=fun c o e=>Heap.get?_push_of_some _ e
 refine wpAny_bind ?_
 unfold Builtin.SmallTypes.ownedTupleHandOut
 refine wpAny_bind (wpAny_setField (hp _ _ z6) rfl (by simp) ?_)
 generalize hg7:(g6.push _).update (N+5) _=g7
 have z7:g7.get? (N+5)=some (j7 (rawInt g6.objs.size) false (N+3) (N+4)):=by rw [←hg7];exact Heap.get?_update_self _ (hp _ _ z6) rfl
 refine wpAny_setField z7 rfl (by simp) ?_
 generalize hg8:g7.update (N+5) _=g8
 have z8:g8.get? (N+5)=some (j7 (rawInt g6.objs.size) false (N+3) (N+4)):=by rw [←hg8];exact Heap.get?_update_self _ z7 rfl
 have k8:∀ (c:Nat) (o:Obj),c≠N+5→g6.get? c=some o→g8.get? c=some o:=fun c o hc e=>by rw [←hg8,aV hc,←hg7,aV hc];exact hp _ _ e
 refine wpAny_pure ⟨_,rfl,?_⟩
 rw [s6] at z8
 show Q (Value.ref g6.objs.size) _
 rw [s6]
 refine K _ ⟨z8,?_,?_,?_,?_,?_⟩ ?_ ?_ ?_
 ·
  refine k8 _ _ (by omega) ?_
  rw [k6 _ (by omega) (by omega) (by omega) (by omega) (by omega)];exact Z.ti
 ·
  exact ⟨_,_,_,k8 _ _ (by omega) t6⟩
 ·
  exact i6.at fun o e=>k8 _ _ (by omega) e
 ·
  exact i6'.at fun o e=>k8 _ _ (by omega) e
 ·
  exact i6''.at fun o e=>k8 _ _ (by omega) e
 ·
  rw [←hg8,aV (by omega),←hg7,aV (by omega),←s6];exact Heap.get?_push_size _ rfl
 ·
  rw [←hg8,Heap.size_update,←hg7,Heap.size_update,Heap.size_push,s6]
 ·
  intro c o hc e
  unfold Off at hc
  refine k8 _ _ (by omega) ?_
  rw [k6 _ (by omega) (by omega) (by omega) (by omega) (by omega)];exact e
theorem next3_end {prog:Program} {w:World} {A:Around} {E:Value→Shared→Prop} {s:Shared} {N l1 l2 l3 k:Nat} {f0:Value} {f1:Bool} {xs ys:Array Value} {x:Value} {Q:PySem.Fin→Shared→Prop} (hA:A.handled=none)
  (Z:Zs s.heap N l1 l2 l3 k f0 f1) (hf:(f0=.none∧f1=false)∨∃ (a:Addr) (o:Obj),f0=rawInt a∧s.heap.get? a=some o) (h1:s.heap.IsList l1 xs) (h2:s.heap.IsList l2 ys) (b1:l1<N) (b2:l2<N)
  (hx:xs[k]?=some x) (hy:ys[k]?=none)
  (K:∀ (h':Heap) (e:Addr),(∀ (c:Nat) (o:Obj),Off N c→s.heap.get? c=some o→h'.get? c=some o)→(∃ o,h'.get? e=some o∧o.cls=Value.type "StopIteration")→E (Value.ref e) { s with heap:=h' }) :
  wpAny (model prog w) A (Builtin.«zip.__next__» { pos:=[Value.ref (N+5)] }) Q E s:=by
 unfold Builtin.«zip.__next__»
 refine wpAny_bind (wpAny_of_eq (a:=(Value.ref (N+5),[])) rfl ?_)
 refine wpAny_bind (wpAny_field (x:=Value.bool false) Z.z rfl rfl ?_)
 refine wpAny_bind (wpAny_field (x:=Value.ref (N+3)) Z.z rfl rfl ?_)
 refine wpAny_bind (wpAny_seqItems Z.ti rfl ?_)
 refine wpAny_ite_false rfl ?_
 refine wpAny_bind ?_
 unfold Builtin.SmallTypes.ownedTupleIsFree
 rcases hf with ⟨rfl,rfl⟩ | ⟨a,o,rfl,ha⟩
 ·
  refine wpAny_bind (wpAny_field (x:=Value.none) Z.z rfl rfl (wpAny_pure ?_))
  refine wpAny_ite_true rfl ?_
  refine wpAny_bind (wpAny_rule ?_)
  refine wpAny_bind (wpAny_field (x:=Value.ref (N+4)) Z.z rfl rfl ?_)
  refine wpAny_bind (wpAny_setField Z.z rfl (by simp) ?_)
  obtain ⟨p,q,r,hto⟩:=Z.to
  generalize hg0:s.heap.update (N+5) (Obj.mapFields fun x_1=>x_1.setIfInBounds 0 Value.ellipsis)=g0
  have k0:∀ c:Nat,c≠N+5→g0.get? c=s.heap.get? c:=fun c hc=>by rw [←hg0];exact aV hc
  have z0:g0.get? (N+5)=some (j7 Value.ellipsis false (N+3) (N+4)):=by rw [←hg0];exact Heap.get?_update_self _ Z.z rfl
  simp only [List.zipIdx_cons,List.zipIdx_nil,List.forIn_cons,List.forIn_nil]
  refine wpAny_bind (wpAny_bind (wpAny_bind (wpAny_onRaise (wpAny_ite_false rfl (wpAny_bind (wpAny_nextOf_list_item (Z.i1.at fun o e=>by rw [k0 _ (by omega)];exact e) (h1.at fun o e=>by rw [k0 _ (by omega)];exact e) hx fun g1 j1 sb1=>wpAny_pure ?_))))))
  have sb1:g1.objs.size=g0.objs.size∧∀ c:Nat,c≠N→g1.get? c=g0.get? c:=sb1
  have t1:g1.get? (N+4)=some (dB [p,q,r]):=by rw [sb1.2 _ (by omega),k0 _ (by omega)];exact hto
  refine wpAny_bind (wpAny_seqItems t1 rfl (wpAny_bind (wpAny_updateSeq t1 rfl ?_ (by simp [PySem.sizeLine_eq]) (by simp [PySem.sizeLine_eq]))))
  refine wpAny_bind (wpAny_letGo (wpAny_pure ?_))
  generalize hg2:g1.update (N+4) _=g2
  have k2:∀ c:Nat,c≠N+5→c≠N→c≠N+4→g2.get? c=s.heap.get? c:=fun c c1 c2 c3=>by rw [←hg2,aV c3,sb1.2 c c2];exact k0 c c1
  have z2:g2.get? (N+5)=some (j7 Value.ellipsis false (N+3) (N+4)):=by rw [←hg2,aV (by omega),sb1.2 _ (by omega)];exact z0
  refine wpAny_bind (wpAny_bind (wpAny_onRaise (wpAny_ite_false rfl (wpAny_bind (wpAny_nextOf_list_end hA (Z.i2.at fun o e=>by rw [k2 _ (by omega) (by omega) (by omega)];exact e) (h2.at fun o e=>by rw [k2 _ (by omega) (by omega) (by omega)];exact e) hy fun g3 e hext he=>?_)))))
  have hext:∀ (c:Nat) (o:Obj),c≠N+1→g2.get? c=some o→g3.get? c=some o:=hext
  refine wpAny_setField (hext _ _ (by omega) z2) rfl (by simp) ?_
  obtain ⟨oe,he1,he2⟩:=he
  refine K _ e ?_ ?_
  ·
   intro c o hc hce
   unfold Off at hc
   rw [aV (by omega)]
   refine hext _ _ (by omega) ?_
   rw [k2 _ (by omega) (by omega) (by omega)];exact hce
  ·
   by_cases hez:e=N+5
   ·
    subst hez
    rw [hext _ _ (by omega) z2] at he1
    cases he1
    exact absurd (show Value.type "zip" = Value.type "StopIteration" from he2) (by decide)
   ·
    exact ⟨oe,by rw [aV hez];exact he1,he2⟩
 ·
  refine wpAny_bind (wpAny_field (x:=rawInt a) Z.z rfl rfl ?_)
  refine wpAny_bind (oi ?_)
  rw [show ((a:Int).toNat)=a from rfl,ha]
  refine wpAny_ite_false rfl ?_
  refine wpAny_bind (wpAny_field (x:=Value.bool f1) Z.z rfl rfl ?_)
  refine thn3 (Q:=fun b s'=>b=false∧∃ h0:Heap,s'={ s with heap:=h0 }∧∀ c:Nat,c≠N+5→h0.get? c=s.heap.get? c) ?_ ?_
  ·
   cases f1 with
   | true=>exact wpAny_ite_false rfl (wpAny_pure ⟨rfl,s.heap,rfl,fun _ _=>rfl⟩)
   | false=>exact wpAny_ite_true rfl (wpAny_bind (wpAny_setField Z.z rfl (by simp) (wpAny_pure ⟨rfl,_,rfl,fun c hc=>aV hc⟩)))
  ·
   rintro b s0 ⟨rfl,h0,rfl,hk0⟩
   refine wpAny_ite_false rfl ?_
   simp only [List.forIn_toArray,List.forIn_cons,List.forIn_nil]
   refine wpAny_bind (wpAny_bind (wpAny_bind (wpAny_holding (wpAny_ite_false rfl (wpAny_bind (wpAny_nextOf_list_item (Z.i1.at fun o e=>by rw [hk0 _ (by omega)];exact e) (h1.at fun o e=>by rw [hk0 _ (by omega)];exact e) hx fun g1 j1 sb1=>wpAny_pure ?_))))))
   refine wpAny_pure ?_
   have sb1:g1.objs.size=h0.objs.size∧∀ c:Nat,c≠N→g1.get? c=h0.get? c:=sb1
   have e1:∀ c:Nat,c≠N+5→c≠N→g1.get? c=s.heap.get? c:=fun c c1 c2=>by rw [sb1.2 c c2];exact hk0 c c1
   refine wpAny_bind (wpAny_bind (wpAny_holding (wpAny_ite_false rfl (wpAny_bind (wpAny_nextOf_list_end hA (Z.i2.at fun o e=>by rw [e1 _ (by omega) (by omega)];exact e) (h2.at fun o e=>by rw [e1 _ (by omega) (by omega)];exact e) hy fun g3 e hext he=>?_)))))
   have hext:∀ (c:Nat) (o:Obj),c≠N+1→g1.get? c=some o→g3.get? c=some o:=hext
   refine K _ e ?_ he
   intro c o hc hce
   unfold Off at hc
   refine hext _ _ (by omega) ?_
   rw [e1 _ (by omega) (by omega)];exact hce
end Ew
open PyProof.Rows PySem PySem.Spec
set_option maxRecDepth 100000
set_option linter.all false
set_option Elab.async false
namespace Ew
theorem pj:typeLookup (Value.type "zip") (Str.ofString "__len__")=pure none:=by with_unfolding_all rfl
theorem oj:typeLookup (Value.type "zip") (Str.ofString "__length_hint__")=pure none:=by with_unfolding_all rfl
def FOk (M0 k:Nat) (f0:Value) (f1:Bool):Prop:=(k=0∧f0=.none∧f1=false)∨(0<k∧f0=rawInt M0)
theorem mZ {prog:Program} {w:World} {A:Around} {E:Value→Shared→Prop} {s:Shared} {N l1 l2 l3 k M0:Nat} {f0:Value} {f1:Bool} {xs ys zs:Array Value} {x y v:Value} {Q:Option Value→Shared→Prop}
  (Z:Zs s.heap N l1 l2 l3 k f0 f1) (hf:FOk M0 k f0 f1) (hsz:s.heap.objs.size=M0+k) (hal:0<k→∃ o,s.heap.get? M0=some o) (h1:s.heap.IsList l1 xs) (h2:s.heap.IsList l2 ys) (h3:s.heap.IsList l3 zs) (b1:l1<N) (b2:l2<N) (b3:l3<N)
  (hx:xs[k]?=some x) (hy:ys[k]?=some y) (hv:zs[k]?=some v)
  (K:∀ (h':Heap) (g:Bool),Zs h' N l1 l2 l3 (k+1) (rawInt M0) g→h'.get? (M0+k)=some (dB [x,y,v])→h'.objs.size=M0+(k+1)→(∀ (c:Nat) (o:Obj),Off N c→s.heap.get? c=some o→h'.get? c=some o)→Q (some (Value.ref (M0+k))) { s with heap:=h' }) :
  wpAny (model prog w) A (pyNext (Value.ref (N+5))) Q E s:=by
 unfold pyNext
 have hty:s.TypeIs (Value.ref (N+5)) "zip":=⟨_,Z.z,rfl⟩
 refine wpAny_bind (wpAny_attempt (wpAny_callSpecial?_slot hty F.slot_zip_next (wpAny_call_entry F.slot_zip_next hty F.entry_zip_next ?_ (F.args_zip_next_1 _))))
 rcases hf with ⟨rfl,rfl,rfl⟩ | ⟨hk,rfl⟩
 ·
  refine next3_fr Z h1 h2 h3 b1 b2 b3 hx hy hv fun h' Z' t' s' k'=>wpAny_pure ?_
  rw [hsz] at t' s' Z' ⊢
  exact K h' false Z' t' (by omega) k'
 ·
  obtain ⟨o,ho⟩:=hal hk
  refine next3_nf Z ho h1 h2 h3 b1 b2 b3 hx hy hv fun h' Z' t' s' k'=>wpAny_pure ?_
  rw [hsz] at t' s' ⊢
  exact K h' true Z' t' (by omega) k'
theorem om {prog:Program} {w:World} {A:Around} {E:Value→Shared→Prop} {s:Shared} {N l1 l2 l3 k M0:Nat} {f0:Value} {f1:Bool} {xs ys:Array Value} {x:Value} {Q:Option Value→Shared→Prop} (hA:A.handled=none)
  (Z:Zs s.heap N l1 l2 l3 k f0 f1) (hf:FOk M0 k f0 f1) (hal:0<k→∃ o,s.heap.get? M0=some o) (h1:s.heap.IsList l1 xs) (h2:s.heap.IsList l2 ys) (b1:l1<N) (b2:l2<N)
  (hx:xs[k]?=some x) (hy:ys[k]?=none)
  (K:∀ h':Heap,(∀ (c:Nat) (o:Obj),Off N c→s.heap.get? c=some o→h'.get? c=some o)→Q none { s with heap:=h' }) :
  wpAny (model prog w) A (pyNext (Value.ref (N+5))) Q E s:=by
 unfold pyNext
 have hty:s.TypeIs (Value.ref (N+5)) "zip":=⟨_,Z.z,rfl⟩
 refine wpAny_bind (wpAny_attempt (wpAny_callSpecial?_slot hty F.slot_zip_next (wpAny_call_entry F.slot_zip_next hty F.entry_zip_next ?_ (F.args_zip_next_1 _))))
 have hf':(f0=.none∧f1=false)∨∃ (a:Addr) (o:Obj),f0=rawInt a∧s.heap.get? a=some o:=by
  rcases hf with ⟨_,rfl,rfl⟩ | ⟨hk,rfl⟩
  ·
   exact .inl ⟨rfl,rfl⟩
  ·
   obtain ⟨o,ho⟩:=hal hk
   exact .inr ⟨M0,o,rfl,ho⟩
 refine next3_end (A:=A.in1) hA Z hf' h1 h2 b1 b2 hx hy fun h' e hk he=>?_
 refine wpAny_bind (wpAny_isInstance he isSubtype_stop ?_)
 exact wpAny_ite_true rfl (wpAny_pure (K h' hk))
abbrev ik (vs:Array Value) (c:Nat):Obj:={ cls:=Value.type "list",data:=Data.seq vs c }
theorem ext3_loop {prog:Program} {w:World} {A:Around} {R:Result→Shared→Prop} {N l1 l2 l3 S M0:Nat} {xs ys zs:Array Value} {res:Value} (hA:A.handled=none)
  (b1:l1<N) (b2:l2<N) (b3:l3<N) (bS:N+5<S) (bM:S<M0) (hn1:xs.size=ys.size+1) (hn3:zs.size=ys.size) (hsm:ys.size≤sizeLine) :
  ∀ (d k:Nat) (s:Shared) (f0:Value) (f1:Bool) (acc:Array Value) (c:Nat),ys.size-k=d→k≤ys.size→Zs s.heap N l1 l2 l3 k f0 f1→FOk M0 k f0 f1→s.heap.objs.size=M0+k→
   s.heap.IsList l1 xs→s.heap.IsList l2 ys→s.heap.IsList l3 zs→s.heap.get? S=some (ik acc c)→acc.toList=(List.range k).map (fun j=>Value.ref (M0+j))→
   (∀ j x y v,j<k→xs[j]?=some x→ys[j]?=some y→zs[j]?=some v→s.heap.get? (M0+j)=some (dB [x,y,v]))→
   (∀ (h':Heap) (acc':Array Value) (c':Nat),h'.get? S=some (ik acc' c')→acc'.toList=(List.range ys.size).map (fun j=>Value.ref (M0+j))→
    (∀ j x y v,j<ys.size→xs[j]?=some x→ys[j]?=some y→zs[j]?=some v→h'.get? (M0+j)=some (dB [x,y,v]))→
    (∀ (c:Nat) (o:Obj),c<N→s.heap.get? c=some o→h'.get? c=some o)→R (Except.ok (Flow.ret res)) { s with heap:=h' })→
   codeAny (model prog w) A (Code.builtin "list.extend.loop" { pos:=[Value.ref S,Value.ref (N+5),res] }) R s:=by
 intro d
 induction d with
 | zero=>
  intro k s f0 f1 acc c hd hk Z hf hsz h1 h2 h3 hS hacc htup K
  have hk':k=ys.size:=by omega
  refine codeAny_builtin F.entry_extend_loop ?_
  rw [Around.under_plainId F.plain_extend_loop]
  unfold Builtin.«list.extend.loop»
  obtain ⟨x,hx⟩ : ∃ x,xs[k]?=some x:=⟨xs[k]'(by omega),by simp⟩
  have hal:0<k→∃ o,s.heap.get? M0=some o:=by
   intro h0
   have:=htup 0 (xs[0]'(by omega)) (ys[0]'(by omega)) (zs[0]'(by omega)) h0 (by simp) (by simp) (by simp)
   exact ⟨_,this⟩
  refine wpAny_bind (om (A:=A.in1) hA Z hf hal h1 h2 b1 b2 hx (by simp [hk']) fun h' hh=>?_)
  refine wpAny_pure ?_
  refine K h' acc c (hh _ _ (by unfold Off;omega) hS) (by rw [hacc,hk']) ?_ ?_
  ·
   intro j x y v hj e1 e2 e3
   exact hh _ _ (by unfold Off;omega) (htup j x y v (by omega) e1 e2 e3)
  ·
   intro c o hc e
   exact hh _ _ (by unfold Off;omega) e
 | succ d ih=>
  intro k s f0 f1 acc c hd hk Z hf hsz h1 h2 h3 hS hacc htup K
  refine codeAny_builtin F.entry_extend_loop ?_
  rw [Around.under_plainId F.plain_extend_loop]
  unfold Builtin.«list.extend.loop»
  have l1':k<xs.size:=by omega
  have l2':k<ys.size:=by omega
  have l3':k<zs.size:=by omega
  have hal:0<k→∃ o,s.heap.get? M0=some o:=by
   intro h0
   have:=htup 0 (xs[0]'(by omega)) (ys[0]'(by omega)) (zs[0]'(by omega)) h0 (by simp) (by simp) (by simp)
   exact ⟨_,this⟩
  refine wpAny_bind (mZ (x:=xs[k]) (y:=ys[k]) (v:=zs[k]) Z hf hsz hal h1 h2 h3 b1 b2 b3 (by simp) (by simp) (by simp) fun h' g Z' t' s' k'=>?_)
  have hS':h'.get? S=some (ik acc c):=k' _ _ (by unfold Off;omega) hS
  have hal:acc.size=k:=by
   have:=congrArg List.length hacc
   simpa using this
  refine wpAny_bind (listUpdate_at hS' rfl ?_ (by omega) (by simp;omega))
  refine wpAny_pure ⟨plainId_quiet F.plain_extend_loop _,?_⟩
  generalize hg:h'.update S (Obj.mapSeq fun x_1=>x_1.push (Value.ref (M0+k)))=h''
  have ho:∀ c:Nat,c≠S→h''.get? c=h'.get? c:=fun c hc=>by rw [←hg];exact aV hc
  have hS'':∃ c'',h''.get? S=some (ik (acc.push (Value.ref (M0+k))) c''):=⟨_,by rw [←hg];exact Heap.get?_update_self _ hS' rfl⟩
  obtain ⟨c'',hS''⟩:=hS''
  have hL:∀ {l:Nat} {us:Array Value},l<N→s.heap.IsList l us→h''.IsList l us:=fun {l us} hl hh=>hh.at fun o e=>by
   rw [ho _ (by omega)];exact k' _ _ (by unfold Off;omega) e
  refine ih (k+1) { s with heap:=h'' } (rawInt M0) g (acc.push (Value.ref (M0+k))) c'' (by omega) (by omega) ?_ (.inr ⟨by omega,rfl⟩) ?_ (hL b1 h1) (hL b2 h2) (hL b3 h3) hS'' ?_ ?_ ?_
  ·
   obtain ⟨p,q,r,e⟩:=Z'.to
   exact ⟨by rw [ho _ (by omega)];exact Z'.z,by rw [ho _ (by omega)];exact Z'.ti,⟨p,q,r,by rw [ho _ (by omega)];exact e⟩,Z'.i1.at fun o e=>by rw [ho _ (by omega)];exact e,Z'.i2.at fun o e=>by rw [ho _ (by omega)];exact e,Z'.i3.at fun o e=>by rw [ho _ (by omega)];exact e⟩
  ·
   show h''.objs.size=_
   rw [←hg,Heap.size_update,s']
  ·
   simp [hacc,List.range_succ]
  ·
   intro j x y v hj e1 e2 e3
   show h''.get? (M0+j)=_
   rw [ho _ (by omega)]
   by_cases hjk:j=k
   ·
    subst hjk
    rw [Array.getElem?_eq_getElem l1'] at e1
    rw [Array.getElem?_eq_getElem l2'] at e2
    rw [Array.getElem?_eq_getElem l3'] at e3
    cases e1;cases e2;cases e3
    exact t'
   ·
    exact k' _ _ (by unfold Off;omega) (htup j x y v (by omega) e1 e2 e3)
  ·
   intro h3' acc' c3 q1 q2 q3 q4
   refine K h3' acc' c3 q1 q2 q3 ?_
   intro c o hc e
   refine q4 c o hc ?_
   show h''.get? c=some o
   rw [ho _ (by omega)]
   exact k' _ _ (by unfold Off;omega) e
theorem kT {prog:Program} {w:World} {A:Around} {E:Value→Shared→Prop} {s:Shared} {N l1 l2 l3:Nat} {xs ys zs:Array Value} {Q:Value→Shared→Prop} (hA:A.handled=none)
  (hN:s.heap.objs.size=N+6) (Z:Zs s.heap N l1 l2 l3 0 .none false) (h1:s.heap.IsList l1 xs) (h2:s.heap.IsList l2 ys) (h3:s.heap.IsList l3 zs)
  (b1:l1<N) (b2:l2<N) (b3:l3<N) (hn1:xs.size=ys.size+1) (hn3:zs.size=ys.size) (hsm:ys.size≤sizeLine)
  (K:∀ (h':Heap) (acc':Array Value) (c':Nat),h'.get? (N+6)=some (ik acc' c')→acc'.toList=(List.range ys.size).map (fun j=>Value.ref (N+7+j))→
   (∀ j x y v,j<ys.size→xs[j]?=some x→ys[j]?=some y→zs[j]?=some v→h'.get? (N+7+j)=some (dB [x,y,v]))→
   (∀ (c:Nat) (o:Obj),c<N→s.heap.get? c=some o→h'.get? c=some o)→Q (Value.ref (N+6)) { s with heap:=h' }) :
  wpAny (model prog w) A (call (Value.type "list") [Value.ref (N+5)]) Q E s:=by
 refine callType_codes F.called_list (F.typeCall_list_1 _) F.entry_list_init (code_list_new _ (Q₁:=fun v s₁=>v=Value.ref (N+6)∧s₁={ s with heap:=s.heap.push (ik #[] 0) }) ⟨by rw [hN],rfl⟩) ?_
 rintro obj s₁ ⟨rfl,rfl⟩
 have hnew:(s.heap.push (ik #[] 0)).get? (N+6)=some (ik #[] 0):=by
  have:=Heap.get?_push_size s.heap (o:=ik #[] 0) rfl
  rw [hN] at this
  exact this
 refine ⟨⟨_,hnew,rfl⟩,F.args_list_init_2 _ _,?_⟩
 unfold Builtin.«list.__init__»
 refine wpAny_ite_false rfl ?_
 refine wpAny_ite_false rfl ?_
 refine wpAny_bind (wpAny_bind (wpAny_seqItems hnew rfl (wpAny_pure ?_)))
 refine wpAny_bind (listUpdate_at hnew rfl ?_ (by simp) (by simp))
 refine wpAny_bind (wpAny_letGo ?_)
 unfold Builtin.List.listExtendWith
 generalize hg:(s.heap.push (ik #[] 0)).update (N+6) (Obj.mapSeq fun _=>#[])=g
 have hp:∀ (c:Nat) (o:Obj),s.heap.get? c=some o→(s.heap.push (ik #[] 0)).get? c=some o:=fun c o e=>Heap.get?_push_of_some _ e
 have k1:∀ (c:Nat) (o:Obj),s.heap.get? c=some o→g.get? c=some o:=fun c o e=>by
  have:c<s.heap.objs.size:=Heap.lt_size e
  rw [←hg,aV (by omega)];exact hp c o e
 obtain ⟨c1,hS⟩ : ∃ c1,g.get? (N+6)=some (ik #[] c1):=⟨_,by rw [←hg];exact Heap.get?_update_self _ hnew rfl⟩
 have hsz:g.objs.size=N+7:=by rw [←hg,Heap.size_update,Heap.size_push,hN]
 have hty:({ s with heap:=g }:Shared).TypeIs (Value.ref (N+5)) "zip":=⟨_,k1 _ _ Z.z,rfl⟩
 refine wpAny_bind (wpAny_typeOf hty ?_)
 refine wpAny_ite_false (by simp [Builtin.List.listSameRef]) ?_
 refine wpAny_bind (wpAny_pyIter_zip (k1 _ _ Z.z) ?_)
 refine wpAny_bind (wpAny_holding ?_)
 unfold Builtin.List.listLengthHint
 refine wpAny_bind (wpAny_specialOf hty pj ?_)
 refine wpAny_ite_false rfl ?_
 refine wpAny_ite_false rfl ?_
 refine wpAny_bind (wpAny_specialOf hty oj (wpAny_pure ?_))
 refine wpAny_ite_true rfl ?_
 refine wpAny_bind (wpAny_rule ?_)
 refine wpAny_bind ?_
 unfold Builtin.List.listTouch
 refine wpAny_bind (listUpdate_at hS rfl ?_ (by simp) (by simp))
 generalize hg2:g.update (N+6) (Obj.mapSeq fun x=>x.push Value.none)=g2
 obtain ⟨c2,hS2⟩ : ∃ c2,g2.get? (N+6)=some (ik #[Value.none] c2):=⟨_,by rw [←hg2];exact Heap.get?_update_self _ hS rfl⟩
 refine listUpdate_at hS2 rfl ?_ (by simp [PySem.sizeLine_eq]) (by simp)
 generalize hg3:g2.update (N+6) (Obj.mapSeq fun x=>x.pop)=g3
 obtain ⟨c3,hS3⟩ : ∃ c3,g3.get? (N+6)=some (ik #[] c3):=⟨_,by rw [←hg3];exact Heap.get?_update_self _ hS2 rfl⟩
 have k3:∀ (c:Nat) (o:Obj),s.heap.get? c=some o→g3.get? c=some o:=fun c o e=>by
  have:c<s.heap.objs.size:=Heap.lt_size e
  rw [←hg3,aV (by omega),←hg2,aV (by omega)];exact k1 c o e
 have hsz3:g3.objs.size=N+7:=by rw [←hg3,Heap.size_update,←hg2,Heap.size_update,hsz]
 refine wpAny_pure ⟨plainId_quiet F.plain_extend_loop _,?_⟩
 obtain ⟨p,q,r,e⟩:=Z.to
 refine ext3_loop (A:=A.in1) (N:=N) (S:=N+6) (M0:=N+7) (l1:=l1) (l2:=l2) (l3:=l3) (xs:=xs) (ys:=ys) (zs:=zs) hA b1 b2 b3 (by omega) (by omega) hn1 hn3 hsm _ 0 { s with heap:=g3 } .none false #[] c3 rfl (by omega)
  ⟨k3 _ _ Z.z,k3 _ _ Z.ti,⟨p,q,r,k3 _ _ e⟩,Z.i1.at fun o e=>k3 _ _ e,Z.i2.at fun o e=>k3 _ _ e,Z.i3.at fun o e=>k3 _ _ e⟩ (.inl ⟨rfl,rfl,rfl⟩) hsz3 (h1.at fun o e=>k3 _ _ e) (h2.at fun o e=>k3 _ _ e) (h3.at fun o e=>k3 _ _ e) hS3 (by simp) (by intro j x y v hj;omega) ?_
 intro h' acc' c' q1 q2 q3 q4
 exact ⟨rfl,K h' acc' c' q1 q2 q3 fun c o hc e=>q4 c o hc (k3 _ _ e)⟩
theorem list_zip3 {prog:Program} {w:World} {A A':Around} {E E':Value→Shared→Prop} {s:Shared} {l1 l2 l3:Nat} {xs ys zs:Array Value} {Q:Value→Shared→Prop} (hA:A.handled=none)
  (h1:s.heap.IsList l1 xs) (h2:s.heap.IsList l2 ys) (h3:s.heap.IsList l3 zs)
  (b1:l1<s.heap.objs.size) (b2:l2<s.heap.objs.size) (b3:l3<s.heap.objs.size) (hn1:xs.size=ys.size+1) (hn3:zs.size=ys.size) (hsm:ys.size≤sizeLine)
  (K:∀ (h':Heap) (acc':Array Value) (c':Nat),h'.get? (s.heap.objs.size+6)=some (ik acc' c')→acc'.toList=(List.range ys.size).map (fun j=>Value.ref (s.heap.objs.size+7+j))→
   (∀ j x y v,j<ys.size→xs[j]?=some x→ys[j]?=some y→zs[j]?=some v→h'.get? (s.heap.objs.size+7+j)=some (dB [x,y,v]))→
   (∀ (c:Nat) (o:Obj),s.heap.get? c=some o→h'.get? c=some o)→Q (Value.ref (s.heap.objs.size+6)) { s with heap:=h' }) :
  wpAny (model prog w) A' (call (Value.type "zip") [Value.ref l1,Value.ref l2,Value.ref l3]) (fun z s1=>wpAny (model prog w) A (call (Value.type "list") [z]) Q E s1) E' s:=by
 refine call_zip3 h1 h2 h3 ?_
 have e0:=Heap.get?_push_size s.heap (o:=itO l1 0) rfl
 have e1:=Heap.get?_push_size (s.heap.push (itO l1 0)) (o:=itO l2 0) rfl
 have e2:=Heap.get?_push_size ((s.heap.push (itO l1 0)).push (itO l2 0)) (o:=itO l3 0) rfl
 have e3:=Heap.get?_push_size (((s.heap.push (itO l1 0)).push (itO l2 0)).push (itO l3 0)) (o:=dB [.ref s.heap.objs.size,.ref (s.heap.objs.size+1),.ref (s.heap.objs.size+2)]) rfl
 have e4:=Heap.get?_push_size ((((s.heap.push (itO l1 0)).push (itO l2 0)).push (itO l3 0)).push (dB [.ref s.heap.objs.size,.ref (s.heap.objs.size+1),.ref (s.heap.objs.size+2)])) (o:=dB [.none,.none,.none]) rfl
 have e5:=Heap.get?_push_size (((((s.heap.push (itO l1 0)).push (itO l2 0)).push (itO l3 0)).push (dB [.ref s.heap.objs.size,.ref (s.heap.objs.size+1),.ref (s.heap.objs.size+2)])).push (dB [.none,.none,.none])) (o:=j7 .none false (s.heap.objs.size+3) (s.heap.objs.size+4)) rfl
 simp only [Heap.size_push] at e1 e2 e3 e4 e5
 have up:∀ (h:Heap) (o:Obj) (c:Nat) (u:Obj),h.get? c=some u→(h.push o).get? c=some u:=fun h o c u e=>Heap.get?_push_of_some _ e
 have old:∀ (c:Nat) (u:Obj),s.heap.get? c=some u→(kB s.heap l1 l2 l3).get? c=some u:=fun c u e=>up _ _ _ _ (up _ _ _ _ (up _ _ _ _ (up _ _ _ _ (up _ _ _ _ (up _ _ _ _ e)))))
 refine kT (N:=s.heap.objs.size) (l1:=l1) (l2:=l2) (l3:=l3) hA (by simp [kB,Heap.size_push]) ⟨e5,up _ _ _ _ (up _ _ _ _ e3),⟨_,_,_,up _ _ _ _ e4⟩,⟨_,up _ _ _ _ (up _ _ _ _ (up _ _ _ _ (up _ _ _ _ (up _ _ _ _ e0)))),rfl,rfl⟩,⟨_,up _ _ _ _ (up _ _ _ _ (up _ _ _ _ (up _ _ _ _ e1))),rfl,rfl⟩,⟨_,up _ _ _ _ (up _ _ _ _ (up _ _ _ _ e2)),rfl,rfl⟩⟩
  (h1.at fun o e=>old _ _ e) (h2.at fun o e=>old _ _ e) (h3.at fun o e=>old _ _ e) b1 b2 b3 hn1 hn3 hsm ?_
 intro h' acc' c' q1 q2 q3 q4
 exact K h' acc' c' q1 q2 q3 fun c o e=>q4 c o (Heap.lt_size e) (old c o e)
end Ew
end
section
set_option Elab.async false
set_option linter.all false
set_option maxRecDepth 100000
namespace L2
open PySem PySem.Spec PyProof.Rows
section
variable {X:Cx} {pins:List (Addr×Obj)} {σ:List (Option V)} {H H':Hp} {s:Shared} {h':Heap}
theorem Inv.lays {t':Nat} (I:Inv X pins σ H s) (k:∀ b u,s.heap.get? b=some u→h'.get? b=some u) (hold:∀ b u,H b=some u→H' b=some u) (hnew:∀ b,b<s.heap.objs.size→H' b=H b)
  (new:∀ b u,H b=none→H' b=some u→cB X.prog X.w H' h' b u):Inv X pins σ H' { s with heap:=h',toks:=t' }:=by
 refine I.step (g':=s.gens) (d':=s.drawn) (ch:=[]) (by simp) (fun b u _ _ _ e _=>k b u e) (fun b u _ _ _ e _=>⟨u.slots,k b u e⟩)
  (fun b u _ e n=>by rw [hnew b (Heap.lt_size e)];exact n) (fun b u _ e=>⟨u,k b u e⟩)
  (fun b xs e=>hold _ _ e) (fun b u xs e=>hold _ _ e) (fun b ps e=>⟨#[],by rw [hold _ _ e];simp⟩) (fun m hm=>?_) (fun b u e=>?_) I.bare
 ·
  obtain ⟨ob,es,ep,ho,r⟩:=hm
  exact ⟨ob,es,ep,k _ ob ho,r⟩
 ·
  cases hb:H b with
  | none=>exact new b u hb e
  | some u'=>
   rw [hold b u' hb] at e
   cases e
   exact (I.hok b u hb).stay (fun c v _ q=>k c v q) (fun c q=>hold _ _ q) fun c xs q=>hold _ _ q
end
def tZip3 (K:PySem.W.Frag) (ta:TA):TE:=fun σ H Q=>ta σ H fun vs H1=>∃ a b c xs ys zs,vs=[.ref a,.ref b,.ref c]∧SqL K H1 a xs∧SqL K H1 b ys∧SqL K H1 c zs∧xs.length=ys.length+1∧zs.length=ys.length∧
 ∀ (l:Addr) (q:Nat→Addr) (H':Hp),aN H1 H'→H1 l=none→(∀ j,H1 (q j)=none)→(∀ j,q j≠l)→H' l=some (.lst ((List.range ys.length).map fun j=>.ref (q j)))→
  (∀ j x y z,xs[j]?=some x→ys[j]?=some y→zs[j]?=some z→H' (q j)=some (.tup [x,y,z]))→
  (∀ b u,H' b=some u→H1 b=some u∨b=l∨∃ j,j<ys.length∧b=q j)→Q (.ref l) H'
section
variable {X:Cx} {a b c:Expr} {ta:TA} {p1 p2 pos1 pos2:Pos}
set_option maxHeartbeats 4000000 in
theorem oo (hc:X.calm=true) (ha:PA X [a,b,c] ta) (hg:Gl X "list") (hm:X.mg "list" = none) (hg2:Gl X "zip") (hm2:X.mg "zip" = none)
   (hs:starEach [a,b,c] X.env=(false,eval a X.env)::starEach [b,c] X.env:=by rfl) (hpl:(backTo pos2 (starEach [b,c] X.env)).any (·.1)=false:=by rfl)
   (hs2:starEach [.Call (.Name "zip" p2) [a,b,c] [] pos2] X.env=[(false,eval (.Call (.Name "zip" p2) [a,b,c] [] pos2) X.env)]:=by rfl) :
   PE X (.Call (.Name "list" p1) [.Call (.Name "zip" p2) [a,b,c] [] pos2] [] pos1) (tZip3 X.K ta):=by
 intro pins s σ H Q I h
 refine wpAny_Call_Name_kw (ib I hg hm boot_list ?_ (by decide) (by decide))
 refine PyProof.Rows.callWith_type1 (rest:=[]) ?_ hs2 rfl
 rw [hs2]
 refine Calls.spliced_cons (rest:=[]) ?_
 refine wpAny_Call_Name_kw (ib I hg2 hm2 boot_zip ?_ (by decide) (by decide))
 refine PyProof.Rows.callWith_type1 (thn (ha pos2 pins s σ H _ I h) fun us s1 ⟨vs,H1,I1,r1,q1⟩=>?_) hs hpl
 obtain ⟨x,y,z,xs,ys,zs,rfl,hx,hy,hz,n1,n3,q⟩:=q1
 cases r1 with
 | cons ra rr=>cases rr with
  | cons rb rr=>cases rr with
   | cons rc rr=>
   cases rr
   cases ra
   cases rb
   cases rc
   obtain ⟨i1,v1,p1,z1⟩:=I1.list hx
   obtain ⟨i2,v2,p2,z2⟩:=I1.list hy
   obtain ⟨i3,v3,p3,z3⟩:=I1.list hz
   have l1:=v1.length
   have l2:=v2.length
   have l3:=v3.length
   have lx:x<s1.heap.objs.size:=by obtain ⟨o,n,e,_⟩:=p1;exact Heap.lt_size e
   have ly:y<s1.heap.objs.size:=by obtain ⟨o,n,e,_⟩:=p2;exact Heap.lt_size e
   have lz:z<s1.heap.objs.size:=by obtain ⟨o,n,e,_⟩:=p3;exact Heap.lt_size e
   refine thn (Ew.list_zip3 (A:=X.A) (E:=X.xe) (Q:=EP X pins σ Q) (I1.ok.hd hc) p1.isList p2.isList p3.isList lx ly lz (by simp;omega) (by simp;omega) (by simp;omega) ?_) fun v s2 hv=>Calls.spliced_nil hv
   intro h' acc' c' q1 q2 q3 q4
   simp only [List.size_toArray] at q2 q3
   let qa:Nat→Addr:=fun j=>s1.heap.objs.size+7+j
   have hfr:∀ b,s1.heap.objs.size≤b→H1 b=none:=fun b hb=>I1.hok.fresh hb
   classical
   let H2:Hp:=fun b=>if b=s1.heap.objs.size+6 then some (.lst ((List.range ys.length).map fun j=>.ref (qa j))) else
    if hb:s1.heap.objs.size+7≤b∧b<s1.heap.objs.size+7+ys.length then some (.tup [xs.getD (b-(s1.heap.objs.size+7)) .non,ys.getD (b-(s1.heap.objs.size+7)) .non,zs.getD (b-(s1.heap.objs.size+7)) .non]) else H1 b
   have hL:H2 (s1.heap.objs.size+6)=some (.lst ((List.range ys.length).map fun j=>.ref (qa j))):=by simp [H2]
   have hT:∀ j,j<ys.length→H2 (qa j)=some (.tup [xs.getD j .non,ys.getD j .non,zs.getD j .non]):=by
    intro j hj
    have e1:¬(s1.heap.objs.size+7+j=s1.heap.objs.size+6):=by omega
    have e2:s1.heap.objs.size+7≤s1.heap.objs.size+7+j∧s1.heap.objs.size+7+j<s1.heap.objs.size+7+ys.length:=by omega
    have e3:s1.heap.objs.size+7+j-(s1.heap.objs.size+7)=j:=by omega
    simp only [H2,qa,if_neg e1,dif_pos e2,e3]
   have hO:∀ b,b<s1.heap.objs.size→H2 b=H1 b:=by
    intro b hb
    have hb:(b:Nat)<s1.heap.objs.size:=hb
    have e1:¬(b=s1.heap.objs.size+6):=by omega
    have e2:¬(s1.heap.objs.size+7≤b∧b<s1.heap.objs.size+7+ys.length):=by omega
    simp only [H2,if_neg e1,dif_neg e2]
   have hS:aN H1 H2:=by
    intro b u e
    have:b<s1.heap.objs.size:=by
     apply Classical.byContradiction
     intro hn
     rw [hfr b (Nat.le_of_not_lt hn)] at e
     cases e
    rw [hO b this];exact e
   have hN:∀ b u,H2 b=some u→H1 b=some u∨b=s1.heap.objs.size+6∨∃ j,j<ys.length∧b=qa j:=by
    intro b u e
    by_cases e1:b=s1.heap.objs.size+6
    ·
     exact .inr (.inl e1)
    ·
     by_cases e2:s1.heap.objs.size+7≤b∧b<s1.heap.objs.size+7+ys.length
     ·
      obtain ⟨m,hm⟩ : ∃ m:Nat,b=s1.heap.objs.size+7+m:=Nat.exists_eq_add_of_le e2.1
      subst hm
      have e4:=e2.2
      exact .inr (.inr ⟨m,Nat.lt_of_add_lt_add_left e4,rfl⟩)
     ·
      left
      simpa only [H2,if_neg e1,dif_neg e2] using e
   refine ⟨.ref (s1.heap.objs.size+6),H2,I1.lays (t':=s1.toks) (H':=H2) (fun b u e=>q4 b u e) hS hO ?_,rfl,?_⟩
   ·
    intro b u hb e
    rcases hN b u e with e1 | e1 | ⟨j,hj,e1⟩
    ·
     rw [hb] at e1;cases e1
    ·
     subst e1
     rw [hL] at e
     cases e
     refine ⟨by simp;omega,acc'.toList,c',?_,by simpa using q1⟩
     rw [q2,←l2]
     clear q2 q3 hL hT hN hS hO
     generalize List.range ys.length=rs
     induction rs with
     | nil=>exact .nil
     | cons r rs ih=>exact .cons rfl ih
    ·
     subst e1
     rw [hT j hj] at e
     cases e
     have gx:xs[j]?=some (xs.getD j .non):=by rw [List.getD_eq_getElem?_getD,List.getElem?_eq_getElem (show j<xs.length by omega)];rfl
     have gy:ys[j]?=some (ys.getD j .non):=by rw [List.getD_eq_getElem?_getD,List.getElem?_eq_getElem (show j<ys.length by omega)];rfl
     have gz:zs[j]?=some (zs.getD j .non):=by rw [List.getD_eq_getElem?_getD,List.getElem?_eq_getElem (show j<zs.length by omega)];rfl
     obtain ⟨w1,hw1,rw1⟩:=v1.get gx
     obtain ⟨w2,hw2,rw2⟩:=v2.get gy
     obtain ⟨w3,hw3,rw3⟩:=v3.get gz
     refine ⟨by simp [PySem.sizeLine_eq],[w1,w2,w3],.cons rw1 (.cons rw2 (.cons rw3 .nil)),⟨_,q3 j w1 w2 w3 (by omega) (by simpa using hw1) (by simpa using hw2) (by simpa using hw3),rfl,_,rfl⟩⟩
   ·
    refine q _ qa H2 hS (hfr _ (by omega)) (fun j=>hfr _ (by show s1.heap.objs.size≤s1.heap.objs.size+7+j;omega)) (fun j=>by show s1.heap.objs.size+7+j≠s1.heap.objs.size+6;omega) hL ?_ hN
    intro j x' y' z' ex ey ez
    have hj:j<ys.length:=by
     rcases Nat.lt_or_ge j ys.length with h | h
     ·
      exact h
     ·
      rw [List.getElem?_eq_none h] at ey;cases ey
    rw [hT j hj]
    simp [List.getD_eq_getElem?_getD,ex,ey,ez]
end
end L2
end
section
set_option Elab.async false
set_option linter.all false
set_option maxRecDepth 100000
namespace Ew
open PySem PySem.Spec L2
theorem jN {H:Hp}:∀ {ds:List D} {vs:List V},ds.length=vs.length→(∀ (j:Nat) d v,ds[j]?=some d→vs[j]?=some v→Rep H d v)→aE H ds vs
 | [],[],_,_=>.nil
 | [],_::_,h,_=>by cases h
 | _::_,[],h,_=>by cases h
 | d::ds,v::vs,h,g=>.cons (g 0 d v rfl rfl) (jN (by simpa using h) fun j d' v' e1 e2=>g (j+1) d' v' (by simpa using e1) (by simpa using e2))
def jO (xs ys zs:List D):List D:=List.zipWith (fun x p=>.tup [x,p.1,p.2]) xs (ys.zip zs)
def gU (fa:DSt→Option (List R)):FE:=fun δ=>(fa δ).bind fun rs=>match rs with
 | [r1,r2,r3]=>match r1.view,r2.view,r3.view with
  | .lst xs,.lst ys,.lst zs=>if xs.length=ys.length+1∧zs.length=ys.length then some (.fr (jO xs ys zs)) else none
  | _,_,_=>none
 | _=>none
theorem View.sq {K:PySem.W.Frag} {Hs H:Hp} (s:aN Hs H) {ds:List D} {v:V} (h:View Hs H (.lst ds) v):∃ a vs,v=.ref a∧SqL K H a vs∧aE Hs ds vs:=by
 rcases h with h | ⟨ds',a,vs,e,e2,h1,h2⟩
 ·
  unfold Rep at h
  obtain ⟨a,vs,e,h1,h2⟩:=h
  exact ⟨a,vs,e,.of (s _ _ h1),h2⟩
 ·
  cases e
  exact ⟨a,vs,e2,.of h1,h2⟩
section
variable {X:Cx} {a b c:Expr} {fa:DSt→Option (List R)} {p1 p2 pos1 pos2:Pos}
set_option maxHeartbeats 1000000 in
theorem oq (hc:X.calm=true) (ha:DA X [a,b,c] fa) (hg:Gl X "list") (hm:X.mg "list" = none) (hg2:Gl X "zip") (hm2:X.mg "zip" = none)
  (hs:starEach [a,b,c] X.env=(false,eval a X.env)::starEach [b,c] X.env:=by rfl) (hpl:(backTo pos2 (starEach [b,c] X.env)).any (·.1)=false:=by rfl)
  (hs2:starEach [.Call (.Name "zip" p2) [a,b,c] [] pos2] X.env=[(false,eval (.Call (.Name "zip" p2) [a,b,c] [] pos2) X.env)]:=by rfl) :
  DE X (.Call (.Name "list" p1) [.Call (.Name "zip" p2) [a,b,c] [] pos2] [] pos1) (gU fa):=.mk <| (oo hc ha.go hg hm hg2 hm2 hs hpl hs2).weak fun σ H Q ⟨Hs,δ,r,S,En,e,K⟩=>by
 unfold gU at e
 cases ef:fa δ with
 | none=>rw [ef] at e;cases e
 | some rs=>
  rw [ef] at e
  refine ⟨Hs,δ,rs,S,En,ef,fun vs Hs1 H1 W1 R1=>?_⟩
  match rs,e,R1 with
  | [r1,r2,r3],e,⟨v1,t1,ev1,q1,⟨v2,t2,ev2,q2,⟨v3,t3,ev3,q3,q4⟩⟩⟩=>
   have q4:t3=[]:=q4
   subst q4 ev3 ev2 ev1
   replace e:(match r1.view,r2.view,r3.view with
    | .lst xs,.lst ys,.lst zs=>if xs.length=ys.length+1∧zs.length=ys.length then some (R.fr (jO xs ys zs)) else none
    | _,_,_=>none)=some r:=e
   have w1:=q1.view
   have w2:=q2.view
   have w3:=q3.view
   match r1.view,r2.view,r3.view,e,w1,w2,w3 with
   | .lst xs,.lst ys,.lst zs,e,w1,w2,w3=>
    by_cases hl:xs.length=ys.length+1∧zs.length=ys.length
    ·
     replace e:(if xs.length=ys.length+1∧zs.length=ys.length then some (R.fr (jO xs ys zs)) else none)=some r:=e
     rw [if_pos hl] at e
     cases e
     obtain ⟨a1,us1,rfl,s1,p1⟩:=w1.sq (K:=X.K) W1.sub
     obtain ⟨a2,us2,rfl,s2,p2⟩:=w2.sq (K:=X.K) W1.sub
     obtain ⟨a3,us3,rfl,s3,p3⟩:=w3.sq (K:=X.K) W1.sub
     have n1:=p1.length
     have n2:=p2.length
     have n3:=p3.length
     refine ⟨a1,a2,a3,us1,us2,us3,rfl,s1,s2,s3,by omega,by omega,?_⟩
     intro l q H' hS hl0 hq hql hL hT hN
     classical
     let Hs2:Hp:=fun b=>if ∃ j,j<us2.length∧b=q j then H' b else Hs1 b
     have hsub:aN Hs2 H':=by
      intro b o e
      by_cases hb:∃ j,j<us2.length∧b=q j
      ·
       simpa only [Hs2,if_pos hb] using e
      ·
       simp only [Hs2,if_neg hb] at e
       exact hS _ _ (W1.sub _ _ e)
     have hbase:aN Hs1 Hs2:=by
      intro b o e
      by_cases hb:∃ j,j<us2.length∧b=q j
      ·
       obtain ⟨j,hj,rfl⟩:=hb
       have:=W1.sub _ _ e
       rw [hq j] at this;cases this
      ·
       simp only [Hs2,if_neg hb];exact e
     have W2:Wd H1 Hs1 Hs2 H':=⟨hS,hsub,hbase,by
      intro b o e
      by_cases hb:∃ j,j<us2.length∧b=q j
      ·
       obtain ⟨j,hj,rfl⟩:=hb
       exact .inr (hq j)
      ·
       simp only [Hs2,if_neg hb] at e
       exact .inl e⟩
     refine K _ Hs2 H' (W1.trans W2) ⟨l,_,rfl,W1.keep.free hl0,?_,hL,?_⟩
     ·
      have hb:¬∃ j,j<us2.length∧l=q j:=fun ⟨j,_,e⟩=>hql j e.symm
      simp only [Hs2,if_neg hb]
      exact W1.sub.free hl0
     ·
      refine jN (by simp [jO];omega) ?_
      intro j d v ed ev
      have hj:j<us2.length:=by
       rw [List.getElem?_map] at ev
       rcases Nat.lt_or_ge j us2.length with h | h
       ·
        exact h
       ·
        rw [List.getElem?_eq_none (by simpa using h)] at ev;cases ev
      have ev':v=.ref (q j):=by
       rw [List.getElem?_map,List.getElem?_range hj] at ev
       cases ev;rfl
      subst ev'
      have l1:j<xs.length:=by omega
      have l2:j<ys.length:=by omega
      have l3:j<zs.length:=by omega
      have m1:j<us1.length:=by omega
      have m3:j<us3.length:=by omega
      have ed':d=.tup [xs[j],ys[j],zs[j]]:=by
       unfold jO at ed
       rw [List.getElem?_zipWith] at ed
       simp [List.getElem?_eq_getElem l1,List.getElem?_zip_eq_some,l2,l3] at ed
       rw [List.getElem?_eq_getElem (by simp;omega)] at ed
       simp at ed
       exact ed.symm
      subst ed'
      unfold Rep
      refine ⟨q j,[us1[j],us2[j],us3[j]],rfl,?_,.cons ?_ (.cons ?_ (.cons ?_ .nil))⟩
      ·
       have hb:∃ k,k<us2.length∧q j=q k:=⟨j,hj,rfl⟩
       simp only [Hs2,if_pos hb]
       exact hT j _ _ _ (List.getElem?_eq_getElem m1) (List.getElem?_eq_getElem hj) (List.getElem?_eq_getElem m3)
      ·
       obtain ⟨u,hu,ru⟩:=p1.get (List.getElem?_eq_getElem l1)
       rw [List.getElem?_eq_getElem m1] at hu;cases hu
       exact Rep.mono hbase _ ru
      ·
       obtain ⟨u,hu,ru⟩:=p2.get (List.getElem?_eq_getElem l2)
       rw [List.getElem?_eq_getElem hj] at hu;cases hu
       exact Rep.mono hbase _ ru
      ·
       obtain ⟨u,hu,ru⟩:=p3.get (List.getElem?_eq_getElem l3)
       rw [List.getElem?_eq_getElem m3] at hu;cases hu
       exact Rep.mono hbase _ ru
    ·
     replace e:(if xs.length=ys.length+1∧zs.length=ys.length then some (R.fr (jO xs ys zs)) else none)=some r:=e
     rw [if_neg hl] at e;cases e
end
end Ew
end
section
set_option Elab.async false
set_option linter.all false
set_option maxRecDepth 100000
namespace Ew
open PySem PySem.Spec L2
open Classical in
noncomputable def f7 (K:PySem.W.Frag) (i:Nat) (δ:DSt):Option (List Int):=match δ[i]? with
 | some (some (.scr K' ns))=>if K'=K then some ns else none
 | _=>none
theorem jr {K:PySem.W.Frag} {i:Nat} {δ:DSt} {ns:List Int} (h:f7 K i δ=some ns):δ[i]?=some (some (.scr K ns)):=by
 unfold f7 at h
 split at h
 ·
  rename_i K' ns' e
  split at h
  ·
   rename_i ek
   cases h
   rw [e,ek]
  ·
   cases h
 ·
  cases h
noncomputable def dlenS (K:PySem.W.Frag) (i:Nat):FE:=fun δ=>(f7 K i δ).map fun ns=>.sh (.int ns.length)
noncomputable def dixS (K:PySem.W.Frag) (i:Nat) (f:FE):FE:=fun δ=>(f δ).bind fun r=>match r with
 | .sh (.int k)=>(f7 K i δ).bind fun ns=>(atI ns k).map fun n=>.sh (.int n)
 | _=>none
noncomputable def eJ (K:PySem.W.Frag) (i:Nat) (m:List Int→Int→Option Int) (f:FE):FE:=fun δ=>(f δ).bind fun r=>match r with
 | .sh (.int k)=>(f7 K i δ).bind fun ns=>(m ns k).map fun n=>.sh (.int n)
 | _=>none
def spS (K:PySem.W.Frag) (m:List Int→Int→Option Int):Sp:=fun vs H Q _=>∃ a k ns n,vs=[.ref a,.int k]∧SqL K H a (ns.map V.int)∧m ns k=some n∧∀ Hs H',aN H H'→Wd H H Hs H'→Q (.int n) H'
def spL (K:PySem.W.Frag) (m:List Int→Option D):Sp:=fun vs H Q _=>∃ a ns d,vs=[.ref a]∧SqL K H a (ns.map V.int)∧m ns=some d∧∀ v Hs' H',Wd H H Hs' H'→Rep Hs' d v→Q v H'
noncomputable def runS (k:Nat) (K:PySem.W.Frag) (F:FS) (ns:List Int) (n:Int):Option Int:=match F (some (.scr K ns)::some (.sh (.int n))::List.replicate (k-2) none) with
 | some (.rt (.sh (.int j)))=>some j
 | _=>none
noncomputable def runL (k:Nat) (K:PySem.W.Frag) (F:FS) (ns:List Int):Option D:=match F (some (.scr K ns)::List.replicate (k-1) none) with
 | some (.rt r)=>if r.isBw=true then none else some r.view
 | _=>none
theorem atI_map {α β:Type} {f:α→β} {xs:List α} {k:Int} {x:α} (h:atI xs k=some x):atI (xs.map f) k=some (f x):=by
 unfold atI at h ⊢
 simp only [List.length_map] at h ⊢
 cases e:ixN xs.length k with
 | none=>rw [e] at h;cases h
 | some j=>
  rw [e] at h
  replace h:xs[j]?=some x:=h
  show (xs.map f)[j]?=some (f x)
  rw [List.getElem?_map,h];rfl
section
variable {X:Cx} {e:Expr} {x:Str} {p pos:Pos} {i:Nat} {f:FE}
theorem de_lenS (h:PE X (.Name x p) (jY i)) (hg:Gl X "len") (hm:X.mg "len" = none) (hs:starEach [.Name x p] X.env=[(false,eval (.Name x p) X.env)]:=by rfl) {p0:Pos} :
  DE X (.Call (.Name "len" p0) [.Name x p] [] pos) (dlenS X.K i):=.mk <| (gj fK hg hm PySem.boot_len (ce h eE hs) (he:=hs)).weak fun σ H Q ⟨Hs,δ,r,S,En,e,K⟩=>by
 unfold dlenS at e
 cases es:f7 X.K i δ with
 | none=>rw [es] at e;cases e
 | some ns=>
  rw [es] at e
  cases e
  obtain ⟨v,hv,a,ev,hq⟩:=En i _ (jr es)
  refine ⟨v,hv,a,ns.map V.int,by rw [ev],.inl (gm S hq),?_⟩
  rw [List.length_map]
  exact K _ Hs H (.refl S) (by show Rep Hs _ _;unfold Rep;rfl)
theorem de_ixS (h:PE X (.Name x p) (jY i)) (hb:DE X e f) (hs:kq e):DE X (.Subscript (.Name x p) e pos) (dixS X.K i f):=.mk <| (pe_ix ix_list h hb.go hs).weak fun σ H Q ⟨Hs,δ,r,S,En,e,K⟩=>by
 unfold dixS at e
 cases ef:f δ with
 | none=>rw [ef] at e;cases e
 | some rf=>
  rw [ef] at e
  match rf,e with
  | .sh (.int k),e=>
   replace e:((f7 X.K i δ).bind fun ns=>(atI ns k).map fun n=>R.sh (.int n))=some r:=e
   cases es:f7 X.K i δ with
   | none=>rw [es] at e;cases e
   | some ns=>
    rw [es] at e
    replace e:((atI ns k).map fun n=>R.sh (.int n))=some r:=e
    cases ea:atI ns k with
    | none=>rw [ea] at e;cases e
    | some n=>
     rw [ea] at e
     cases e
     obtain ⟨v,hv,a,ev,hq⟩:=En i _ (jr es)
     refine ⟨v,hv,Hs,δ,.sh (.int k),S,En,ef,fun y Hs1 H1 W1 R1=>?_⟩
     have R1:Rep Hs1 (.int k) y:=R1
     unfold Rep at R1
     exact ⟨a,ns.map V.int,k,.int n,ev,R1,gm (S.trans W1.keep) hq,atI_map ea,K _ Hs1 H1 W1 (by show Rep Hs1 _ _;unfold Rep;rfl)⟩
theorem de_callS {y qual:Str} {st:Stmt} {ps:List Str} {fa:Addr} {fd:FuncData} {k:Nat} {m:List Int→Int→Option Int} {py:Pos} (d:Df X.K X.mg y qual st ps fa fd) (G:dY X.prog X.w X.K X.mg X.base CX0 k fa fd ps (spS X.K m)) (hr:bC k X.A)
  (h:PE X (.Name x p) (jY i)) (hb:DE X e f)
  (hg:Gl X y:=by rfl) (hdb:(y==("__debug__" : Str))=false:=by decide) (he:starEach [.Name x p,e] X.env=(false,eval (.Name x p) X.env)::starEach [e] X.env:=by exact bP rfl) (hs:starEach [e] X.env=[(false,eval e X.env)]:=by exact bP rfl) (hpl:(backTo pos (starEach [e] X.env)).any (·.1)=false:=by rfl) :
  DE X (.Call (.Name y py) [.Name x p,e] [] pos) (eJ X.K i m f):=.mk <| (mK (E:=E0) G hr hg d.mgx d.fn.kp d.bd .nil lU (ce h (ce hb.go eE hs) he) hdb he hpl).weak fun σ H Q ⟨Hs,δ,r,S,En,e,K⟩=>by
 unfold eJ at e
 cases ef:f δ with
 | none=>rw [ef] at e;cases e
 | some rf=>
  rw [ef] at e
  match rf,e with
  | .sh (.int k),e=>
   replace e:((f7 X.K i δ).bind fun ns=>(m ns k).map fun n=>R.sh (.int n))=some r:=e
   cases es:f7 X.K i δ with
   | none=>rw [es] at e;cases e
   | some ns=>
    rw [es] at e
    replace e:((m ns k).map fun n=>R.sh (.int n))=some r:=e
    cases ea:m ns k with
    | none=>rw [ea] at e;cases e
    | some n=>
     rw [ea] at e
     cases e
     obtain ⟨v,hv,a,ev,hq⟩:=En i _ (jr es)
     refine ⟨v,hv,Hs,δ,.sh (.int k),S,En,ef,fun y Hs1 H1 W1 R1=>?_⟩
     have R1:Rep Hs1 (.int k) y:=R1
     unfold Rep at R1
     refine ⟨a,k,ns,n,by rw [ev,R1];rfl,gm (S.trans W1.keep) hq,ea,fun Hs2 H2 s2 W2=>?_⟩
     exact K _ Hs1 H2 (W1.trans ⟨s2,W1.sub.trans s2,.refl _,fun _ _ e=>.inl e⟩) (by show Rep Hs1 _ _;unfold Rep;rfl)
def mj (f:FE):FS:=fun δ=>(f δ).bind fun _=>some (.nx δ)
theorem ds_drop (h:DE X e f) (hs:swapsWith e none pos.line X.env=pure false:=by rfl):DS X (.Expr e pos) (mj f):=.mk fun H0 Hs0=>(iA h.go hs).weak fun D σ H ⟨Hs,δ,res,W,S,e,P⟩=>by
 unfold mj at e
 cases ef:f δ with
 | none=>rw [ef] at e;cases e
 | some r=>
  rw [ef] at e
  cases e
  exact ⟨Hs,δ,r,W.sub,S.ent,ef,fun v Hs1 H1 W1 R1=>P σ Hs1 H1 (W.trans W1) (S.mono W1)⟩
end
theorem st_scr {K:PySem.W.Frag} {H:Hp} {N:List Str} {a:Addr} {ns:List Int} {ds:List D} {vs:List V} (h:SqL K H a (ns.map V.int)) (r:aE H ds vs) :
  StR H H H (some (.scr K ns)::(ds.map (fun d=>some (E.sh d))++List.replicate (N.length-(ds.length+1)) none)) (L2.start N (.ref a::vs)):=by
 have get:∀ (i:Nat) (e:E),(some (.scr K ns)::(ds.map (fun d=>some (E.sh d))++List.replicate (N.length-(ds.length+1)) none))[i]?=some (some e)→(i=0∧e=.scr K ns)∨∃ j d,i=j+1∧ds[j]?=some d∧e=E.sh d:=fun i e h=>by
  cases i with
  | zero=>simp at h;exact .inl ⟨rfl,h.symm⟩
  | succ i=>
   right
   rw [List.getElem?_cons_succ] at h
   by_cases hi:i<ds.length
   ·
    rw [List.getElem?_append_left (by simpa using hi),List.getElem?_map] at h
    cases q:ds[i]? with
    | none=>rw [q] at h;cases h
    | some d=>rw [q] at h;cases h;exact ⟨i,d,rfl,q,rfl⟩
   ·
    rw [List.getElem?_append_right (by simpa using hi),List.getElem?_replicate] at h
    split at h <;> cases h
 have nf:∀ (i:Nat) (e:E) (v:V) (b:Addr),(some (.scr K ns)::(ds.map (fun d=>some (E.sh d))++List.replicate (N.length-(ds.length+1)) none))[i]?=some (some e)→¬Fp H e v b:=fun i e v b h f=>by
  rcases get i e h with ⟨_,rfl⟩ | ⟨_,d,_,_,rfl⟩ <;> cases f
 refine ⟨fun i e h'=>?_,?_,fun i e v b h _ f=>(nf i e v b h f).elim,fun i j e e' v v' b _ h _ _ _ f=>(nf i e v b h f).elim⟩
 ·
  rcases get i e h' with ⟨rfl,rfl⟩ | ⟨j,d,rfl,hd,rfl⟩
  ·
   exact ⟨.ref a,by unfold L2.start;simp,a,rfl,h⟩
  ·
   obtain ⟨v,hv,rv⟩:=r.get hd
   refine ⟨v,?_,rv⟩
   unfold L2.start
   have hi:j<vs.length:=(List.getElem?_eq_some_iff.mp hv).1
   rw [List.getElem?_append_left (by simpa using hi),List.getElem?_map,List.getElem?_cons_succ,hv]
   rfl
 ·
  unfold L2.start
  simp [r.length]
section
variable {P:Program} {w:World} {K:PySem.W.Frag} {mg:Str→Option Value} {base:Heap}
theorem fn_S {x qual:Str} {st:Stmt} {f:Addr} {fd:FuncData} {N:List Str} {p1 p2:Str} {k:Nat} {F:FS} (F0:Fun K x qual st f fd) (S:dZ N [p1,p2] (aw st)) (hN:2≤N.length)
  (h:∀ (cdv:Value) (A:Around) (outer:List Env) (s:Shared) (H:Hp) (E:XK),bC k (A.deeper (PyProof.Rows.envOfC qual (aw st) s.heap.objs.size f cdv))→DSs (jZ CX0 P w K mg base N qual (aw st) f cdv A outer s H E).nox (aS st) F) :
  dY P w K mg base CX0 (k+1) f fd [p1,p2] (spS K (runS N.length K F)):=by
 refine F0.ok S (fun vs H Q E hs=>?_) (fun cdv A outer s H vs Q E hr hs=>?_)
 ·
  obtain ⟨a,k,ns,n,e,_⟩:=hs;rw [e];rfl
 ·
  obtain ⟨a,j,ns,n,rfl,hq,em,post⟩:=hs
  refine ⟨_,(h cdv A outer s H E hr).go H H,?_⟩
  unfold runS at em
  cases eF:F (some (.scr K ns)::some (.sh (.int j))::List.replicate (N.length-2) none) with
  | none=>rw [eF] at em;cases em
  | some res=>
   rw [eF] at em
   have St:=st_scr (N:=N) (K:=K) (H:=H) (ds:=[.int j]) (vs:=[.int j]) hq (.cons (by unfold Rep;rfl) .nil)
   refine ⟨H,_,res,.refl (.refl _),St,eF,?_⟩
   match res,em with
   | .rt (.sh (.int j2)),em=>
    cases em
    intro v Hs1 H1 W1 R1
    have R1:Rep Hs1 (.int n) v:=R1
    unfold Rep at R1
    rw [R1]
    exact post Hs1 H1 W1.keep W1
theorem fn_L {x qual:Str} {st:Stmt} {f:Addr} {fd:FuncData} {N:List Str} {p1:Str} {k:Nat} {F:FS} (F0:Fun K x qual st f fd) (S:dZ N [p1] (aw st)) (hN:1≤N.length)
  (h:∀ (cdv:Value) (A:Around) (outer:List Env) (s:Shared) (H:Hp) (E:XK),bC k (A.deeper (PyProof.Rows.envOfC qual (aw st) s.heap.objs.size f cdv))→DSs (jZ CX0 P w K mg base N qual (aw st) f cdv A outer s H E).nox (aS st) F) :
  dY P w K mg base CX0 (k+1) f fd [p1] (spL K (runL N.length K F)):=by
 refine F0.ok S (fun vs H Q E hs=>?_) (fun cdv A outer s H vs Q E hr hs=>?_)
 ·
  obtain ⟨a,ns,n,e,_⟩:=hs;rw [e];rfl
 ·
  obtain ⟨a,ns,d,rfl,hq,em,post⟩:=hs
  refine ⟨_,(h cdv A outer s H E hr).go H H,?_⟩
  unfold runL at em
  cases eF:F (some (.scr K ns)::List.replicate (N.length-1) none) with
  | none=>rw [eF] at em;cases em
  | some res=>
   rw [eF] at em
   have St:=st_scr (N:=N) (K:=K) (H:=H) (ds:=[]) (vs:=[]) hq .nil
   refine ⟨H,_,res,.refl (.refl _),St,eF,?_⟩
   cases res with
   | nx δ=>cases em
   | bk δ=>cases em
   | ct δ=>cases em
   | rn d=>cases em
   | rt r1=>
    replace em:(if r1.isBw=true then none else some r1.view)=some d:=em
    by_cases hb:r1.isBw=true
    ·
     rw [if_pos hb] at em;cases em
    ·
     rw [if_neg hb] at em
     cases em
     intro v Hs1 H1 W1 R1
     obtain ⟨Hs2,q,W2⟩:=R1.share W1 (fun ds z=>hb (by rw [z];rfl))
     exact post v Hs2 H1 W2 q
end
end Ew
end
section
set_option linter.all false
namespace Ew
open PySem PySem.Spec L2
open Classical in
noncomputable def unif {α:Type} (f:Addr→Option α):Option α:=if h:∃ a,∀ p,f p=some a then some h.choose else none
theorem unif_all {α:Type} {f:Addr→Option α} {a:α} (h:unif f=some a):∀ p,f p=some a:=by
 unfold unif at h
 split at h
 ·
  rename_i e
  cases h
  exact e.choose_spec
 ·
  cases h
theorem m5 {α:Type} {f:Addr→Option α} {a:α} (h:∀ p,f p=some a):unif f=some a:=by
 unfold unif
 rw [dif_pos ⟨a,h⟩]
 have e:∃ a,∀ p,f p=some a:=⟨a,h⟩
 have:=e.choose_spec 0
 rw [h 0] at this
 exact this.symm
def spLaw (K:PySem.W.Frag):Sp:=fun vs H Q _=>∃ (a:Addr) (ns:List Int),vs=[.ref a]∧ns.length≤63∧SqL K H a (ns.map V.int)∧∀ H',aN H H'→Q (.bl true) H'
theorem spLaw_imp {K:PySem.W.Frag} {m:List Int→Option D} (h:∀ ns:List Int,ns.length≤63→m ns=some (.bl true)):∀ vs H Q E,spLaw K vs H Q E→spL K m vs H Q E:=by
 rintro vs H Q E ⟨a,ns,rfl,hl,hq,k⟩
 refine ⟨a,ns,.bl true,rfl,hq,h ns hl,fun v Hs' H' W r=>?_⟩
 unfold Rep at r
 rw [r]
 exact k H' W.keep
theorem kU {K:PySem.W.Frag} {C:Addr}:PySem.W.kitOne K (.ref C) (.ref C)=some true:=by
 unfold PySem.W.kitOne
 rw [if_pos (by simp)]
theorem kit_sub {K:PySem.W.Frag} {C D:Addr} {oc:Value} {od:Option Addr} {cd:ClassData} {sl:Array (Option Value)} {b:Bool} (h1:K.lookup D=some ⟨oc,od,.cls cd,sl⟩) (h2:PySem.W.typeIn K (.ref D)=some (.type "type"))
  (h3:PySem.W.subIn K (.ref C) (.ref D)=some b) (hn:C≠D):PySem.W.kitOne K (.ref C) (.ref D)=some b:=by
 unfold PySem.W.kitOne
 rw [if_neg (by simpa using hn)]
 show (if ((PySem.W.clsIn K D).isSome&&PySem.W.typeIn K (.ref D)==some (.type "type"))=true then PySem.W.subIn K (.ref C) (.ref D) else none)=some b
 have hc:PySem.W.clsIn K D=some cd:=by
  unfold PySem.W.clsIn
  rw [show List.lookup D K=_ from h1]
 rw [hc,h2]
 simpa using h3
theorem kk_int (K:PySem.W.Frag):∀ d b,dA d=some b→∃ t,TyD K d t∧PySem.W.kitOne K t (.type "int")=some b:=fun d b h=>match d,h with
 | .non,h=>⟨_,.non,by cases h;with_unfolding_all rfl⟩
 | .bl _,h=>⟨_,.bl _,by cases h;with_unfolding_all rfl⟩
 | .int _,h=>⟨_,.int _,by cases h;with_unfolding_all rfl⟩
 | .str _,h=>⟨_,.str _,by cases h;with_unfolding_all rfl⟩
 | .lst _,h=>⟨_,.lst _,by cases h;with_unfolding_all rfl⟩
 | .tup _,h=>⟨_,.tup _,by cases h;with_unfolding_all rfl⟩
 | .obj _ _,h=>by cases h
theorem kk_bool (K:PySem.W.Frag):∀ d b,is_bool d=some b→∃ t,TyD K d t∧PySem.W.kitOne K t (.type "bool")=some b:=fun d b h=>match d,h with
 | .non,h=>⟨_,.non,by cases h;with_unfolding_all rfl⟩
 | .bl _,h=>⟨_,.bl _,by cases h;with_unfolding_all rfl⟩
 | .int _,h=>⟨_,.int _,by cases h;with_unfolding_all rfl⟩
 | .str _,h=>⟨_,.str _,by cases h;with_unfolding_all rfl⟩
 | .lst _,h=>⟨_,.lst _,by cases h;with_unfolding_all rfl⟩
 | .tup _,h=>⟨_,.tup _,by cases h;with_unfolding_all rfl⟩
 | .obj _ _,h=>by cases h
theorem kk_list (K:PySem.W.Frag):∀ d b,cn d=some b→∃ t,TyD K d t∧PySem.W.kitOne K t (.type "list")=some b:=fun d b h=>match d,h with
 | .non,h=>⟨_,.non,by cases h;with_unfolding_all rfl⟩
 | .bl _,h=>⟨_,.bl _,by cases h;with_unfolding_all rfl⟩
 | .int _,h=>⟨_,.int _,by cases h;with_unfolding_all rfl⟩
 | .str _,h=>⟨_,.str _,by cases h;with_unfolding_all rfl⟩
 | .lst _,h=>⟨_,.lst _,by cases h;with_unfolding_all rfl⟩
 | .tup _,h=>⟨_,.tup _,by cases h;with_unfolding_all rfl⟩
 | .obj _ _,h=>by cases h
theorem kk_tuple (K:PySem.W.Frag):∀ d b,eH d=some b→∃ t,TyD K d t∧PySem.W.kitOne K t (.type "tuple")=some b:=fun d b h=>match d,h with
 | .non,h=>⟨_,.non,by cases h;with_unfolding_all rfl⟩
 | .bl _,h=>⟨_,.bl _,by cases h;with_unfolding_all rfl⟩
 | .int _,h=>⟨_,.int _,by cases h;with_unfolding_all rfl⟩
 | .str _,h=>⟨_,.str _,by cases h;with_unfolding_all rfl⟩
 | .lst _,h=>⟨_,.lst _,by cases h;with_unfolding_all rfl⟩
 | .tup _,h=>⟨_,.tup _,by cases h;with_unfolding_all rfl⟩
 | .obj _ _,h=>by cases h
def Fx (K:PySem.W.Frag) (x qual:Str) (st:Stmt) (ps:List Str):Prop:=∃ f fd,PySem.W.nsIn K mainGlobals x=some (some (.ref f))∧Fun K x qual st f fd∧Binds K fd ps []
def FxL (K:PySem.W.Frag) (x qual:Str) (st:Stmt) (p:Str):Prop:=∃ f fd,PySem.W.nsIn K mainGlobals x=some (some (.ref f))∧Fun K x qual st f fd∧Binds K fd [p] []∧∀ (s:Shared) (u:Value),BindsTo s fd ⟨[u],[]⟩ [(p,u)]
def Fm (K:PySem.W.Frag) (C:Addr) (x qual:Str) (st:Stmt) (ps:List Str):Prop:=∃ f fd,PySem.W.findIn K (.ref C) x=some (some (.ref f))∧PySem.W.isFn K (.ref f)=true∧Fun K x qual st f fd∧Binds K fd ps []
section
variable {K:PySem.W.Frag} {C:Addr} {x qual p:Str} {st:Stmt} {ps:List Str} {f:Addr} {oc:Value} {od an:Option Addr} {osl:Array (Option Value)} {kV doc pm cdv ct:Value}
theorem fx_mk (e1:PySem.W.nsIn K mainGlobals x=some (some (.ref f))) (e2:K.lookup f=some ⟨oc,od,.func (PySem.W.fnOf x qual (bp st) (aS st) (aw st) .none kV doc pm an cdv ct),osl⟩) (e3:PySem.W.codeIn K cdv qual=true) (e4:PySem.W.keepIn K (.ref f)=true)
  (h:∀ (kV doc pm:Value) (an:Option Addr) (cdv ct:Value) (us:List Value),us.length=ps.length→bindArgs (PySem.W.fnOf x qual (bp st) (aS st) (aw st) .none kV doc pm an cdv ct) ⟨us,[]⟩=pure (ps.zip us)):Fx K x qual st ps:=
 ⟨f,_,e1,jk e2 e3 e4,(jk e2 e3 e4).binds h⟩
theorem fxl_mk (e1:PySem.W.nsIn K mainGlobals x=some (some (.ref f))) (e2:K.lookup f=some ⟨oc,od,.func (PySem.W.fnOf x qual (bp st) (aS st) (aw st) .none kV doc pm an cdv ct),osl⟩) (e3:PySem.W.codeIn K cdv qual=true) (e4:PySem.W.keepIn K (.ref f)=true)
  (h:∀ (kV doc pm:Value) (an:Option Addr) (cdv ct:Value) (us:List Value),us.length=[p].length→bindArgs (PySem.W.fnOf x qual (bp st) (aS st) (aw st) .none kV doc pm an cdv ct) ⟨us,[]⟩=pure ([p].zip us)):FxL K x qual st p:=
 ⟨f,_,e1,jk e2 e3 e4,(jk e2 e3 e4).binds h,fun s u=>.of_eq (h _ _ _ _ _ _ [u] rfl)⟩
theorem fm_mk (e1:PySem.W.findIn K (.ref C) x=some (some (.ref f))) (e2:K.lookup f=some ⟨oc,od,.func (PySem.W.fnOf x qual (bp st) (aS st) (aw st) .none kV doc pm an cdv ct),osl⟩) (e3:PySem.W.codeIn K cdv qual=true) (e4:PySem.W.keepIn K (.ref f)=true) (e5:PySem.W.isFn K (.ref f)=true)
  (h:∀ (kV doc pm:Value) (an:Option Addr) (cdv ct:Value) (us:List Value),us.length=ps.length→bindArgs (PySem.W.fnOf x qual (bp st) (aS st) (aw st) .none kV doc pm an cdv ct) ⟨us,[]⟩=pure (ps.zip us)):Fm K C x qual st ps:=
 ⟨f,_,e1,e5,jk e2 e3 e4,(jk e2 e3 e4).binds h⟩
end
end Ew
end
section
set_option Elab.async false
set_option linter.all false
set_option maxRecDepth 100000
namespace Ew
open PySem PySem.Spec L2
section
variable {X:Cx}
def dslT (f:FE) (fl fh:FO):FE:=fun δ=>(f δ).bind fun r=>(fl δ).bind fun lo=>(fh δ).bind fun hi=>match r with
 | .sh (.tup ds)=>if HT.sIx ds.length 0 lo=0∧HT.sIx ds.length ds.length hi=ds.length then none else some (.sh (.tup (cutD ds lo hi)))
 | _=>none
@[simp] theorem dslT_e {f:FE} {fl fh:FO} {δ:DSt}:dslT f fl fh δ=(f δ).bind fun r=>(fl δ).bind fun lo=>(fh δ).bind fun hi=>match r with
 | .sh (.tup ds)=>if HT.sIx ds.length 0 lo=0∧HT.sIx ds.length ds.length hi=ds.length then none else some (.sh (.tup (cutD ds lo hi)))
 | _=>none:=rfl
end
end Ew
end
section
namespace Ew
open PySem PySem.Spec L2
section
variable {K:PySem.W.Frag} {C:Addr} {x qual p zx zq:Str} {st st':Stmt} {ps:List Str} {f:Addr} {oc:Value} {od an:Option Addr} {osl:Array (Option Value)} {kV doc pm cdv ct:Value}
theorem fx_mk2 (ex:x=zx) (eq:qual=zq) (es:st=st') (e1:PySem.W.nsIn K mainGlobals x=some (some (.ref f))) (e2:K.lookup f=some ⟨oc,od,.func (PySem.W.fnOf zx zq (bp st') (aS st') (aw st') .none kV doc pm an cdv ct),osl⟩) (e3:PySem.W.codeIn K cdv qual=true) (e4:PySem.W.keepIn K (.ref f)=true)
  (h:∀ (kV doc pm:Value) (an:Option Addr) (cdv ct:Value) (us:List Value),us.length=ps.length→bindArgs (PySem.W.fnOf x qual (bp st) (aS st) (aw st) .none kV doc pm an cdv ct) ⟨us,[]⟩=pure (ps.zip us)):Fx K x qual st ps:=by
 subst ex;subst eq;subst es;exact fx_mk e1 e2 e3 e4 h
theorem fxl_mk2 (ex:x=zx) (eq:qual=zq) (es:st=st') (e1:PySem.W.nsIn K mainGlobals x=some (some (.ref f))) (e2:K.lookup f=some ⟨oc,od,.func (PySem.W.fnOf zx zq (bp st') (aS st') (aw st') .none kV doc pm an cdv ct),osl⟩) (e3:PySem.W.codeIn K cdv qual=true) (e4:PySem.W.keepIn K (.ref f)=true)
  (h:∀ (kV doc pm:Value) (an:Option Addr) (cdv ct:Value) (us:List Value),us.length=[p].length→bindArgs (PySem.W.fnOf x qual (bp st) (aS st) (aw st) .none kV doc pm an cdv ct) ⟨us,[]⟩=pure ([p].zip us)):FxL K x qual st p:=by
 subst ex;subst eq;subst es;exact fxl_mk e1 e2 e3 e4 h
theorem fm_mk2 (ex:x=zx) (eq:qual=zq) (es:st=st') (e1:PySem.W.findIn K (.ref C) x=some (some (.ref f))) (e2:K.lookup f=some ⟨oc,od,.func (PySem.W.fnOf zx zq (bp st') (aS st') (aw st') .none kV doc pm an cdv ct),osl⟩) (e3:PySem.W.codeIn K cdv qual=true) (e4:PySem.W.keepIn K (.ref f)=true) (e5:PySem.W.isFn K (.ref f)=true)
  (h:∀ (kV doc pm:Value) (an:Option Addr) (cdv ct:Value) (us:List Value),us.length=ps.length→bindArgs (PySem.W.fnOf x qual (bp st) (aS st) (aw st) .none kV doc pm an cdv ct) ⟨us,[]⟩=pure (ps.zip us)):Fm K C x qual st ps:=by
 subst ex;subst eq;subst es;exact fm_mk e1 e2 e3 e4 e5 h
end
end Ew
end
section
set_option Elab.async false
set_option linter.all false
set_option maxRecDepth 100000
namespace Ew
open PySem PySem.Spec L2
structure Fb (K:PySem.W.Frag) (x qual:Str) (st:Stmt) (ps:List Str) where
 f:Addr
 fd:FuncData
 fn:Fun K x qual st f fd
 bd:Binds K fd ps []
structure Fd (K:PySem.W.Frag) (mg:Str→Option Value) (x:Str) (st:Stmt) (ps:List Str) extends Fb K x x st ps where
 mgx:mg x=some (.ref f)
structure Md (K:PySem.W.Frag) (C:Addr) (x qual:Str) (st:Stmt) (ps:List Str) extends Fb K x qual st ps where
 mt:Meth K C x f
structure Ni (K:PySem.W.Frag) (C:Addr) (qual:Str) (st:Stmt) (ps:List Str) extends Fb K "__init__" qual st ps where
 mk':Mk K C f
structure Cd (K:PySem.W.Frag) (mg:Str→Option Value) (C:Addr) (x:Str):Prop where
 cls:Cls K C
 g:mg x=some (.ref C)
def Ka (K:PySem.W.Frag) (f:D→Option Bool) (a:Addr):Prop:=∀ d b,f d=some b→∃ t,TyD K d t∧PySem.W.kitOne K t (.ref a)=some b
def pick:List (Addr×Bool)→Addr→Option Bool
  | [],_=>none
  | (a,b)::r,C=>if C=a then some b else pick r C
@[simp] theorem pick_nil (C:Addr):pick [] C=none:=rfl
@[simp] theorem pick_cons (a:Addr) (b:Bool) (r:List (Addr×Bool)) (C:Addr):pick ((a,b)::r) C=if C=a then some b else pick r C:=rfl
def isT (t:List (Addr×Bool)):D→Option Bool
 | .obj C _=>pick t C
 | _=>none
@[simp] theorem isT_obj (t:List (Addr×Bool)) (C:Addr) (fs:List (Str×D)):isT t (.obj C fs)=pick t C:=rfl
section
variable {K:PySem.W.Frag} {a C:Addr} {b:Bool} {t:List (Addr×Bool)}
theorem jt:Ka K (isT []) a:=fun d b h=>by cases d <;> cases h
theorem bH (o:∀ fs,TyD K (.obj C fs) (.ref C)) (k:PySem.W.kitOne K (.ref C) (.ref a)=some b) (r:Ka K (isT t) a):Ka K (isT ((C,b)::t)) a:=fun d b' h=>by
 cases d with
 | obj D fs=>
  replace h:(if D=C then some b else pick t D)=some b':=h
  split at h
  ·
   rename_i e
   cases h
   cases e
   exact ⟨_,o fs,k⟩
  ·
   exact r (.obj D fs) b' h
 | _=>cases h
end
theorem cd_mk {K:PySem.W.Frag} {mg:Str→Option Value} {h:Heap} (KX:K.In h) (G:h.Ns mainGlobals mg) {C:Addr} {x:Str} (e0:PySem.W.nsIn K mainGlobals x=some (some (.ref C))) (e1:PySem.W.plainGet K C Str.empty=true) (e2:PySem.W.hasDictIn K C=true) (e3:PySem.W.plainOver K C=true)
 (e4:PySem.W.findIn K (.ref C) "__setattr__" = some (some (.builtin "object.__setattr__"))):Cd K mg C x:=⟨⟨e1,e2,e3,e4⟩,PySem.W.mg_of KX G e0⟩
theorem ob_mk {K:PySem.W.Frag} {C:Addr} (c:Cls K C) (c2:PySem.W.specialIn K (.builtin "object.__class__") "__get__" = some (some (.builtin "getset_descriptor.__get__"))) (c3:PySem.W.takesIn K (.builtin "object.__class__")=some true)
 (c1:PySem.W.findIn K (.ref C) "__class__" = some (some (.builtin "object.__class__"))) (c4:PySem.W.mroIn K C (.type "object")=some true):∀ fs,TyD K (.obj C fs) (.ref C):=fun fs=>.obj _ c c1 c2 c3 c4
noncomputable def Fd.of {K:PySem.W.Frag} {mg:Str→Option Value} {h:Heap} (KX:K.In h) (G:h.Ns mainGlobals mg) {x:Str} {st:Stmt} {ps:List Str} (e:Fx K x x st ps):Fd K mg x st ps:=
 have e1:=e.choose_spec.choose_spec
 ⟨⟨e.choose,e.choose_spec.choose,e1.2.1,e1.2.2⟩,PySem.W.mg_of KX G e1.1⟩
noncomputable def Md.of {K:PySem.W.Frag} {C:Addr} {x q:Str} {st:Stmt} {ps:List Str} (e:Fm K C x q st ps):Md K C x q st ps:=
 have e1:=e.choose_spec.choose_spec
 ⟨⟨e.choose,e.choose_spec.choose,e1.2.2.1,e1.2.2.2⟩,⟨e1.1,e1.2.1,e1.2.2.1.kp⟩⟩
noncomputable def Ni.of {K:PySem.W.Frag} {C:Addr} {q:Str} {st:Stmt} {ps:List Str} (e:Fm K C "__init__" q st ps) (h1:PySem.W.makesIn K C=true) (h2:PySem.W.keepIn K (.ref C)=true):Ni K C q st ps:=
 have e1:=e.choose_spec.choose_spec
 ⟨⟨e.choose,e.choose_spec.choose,e1.2.2.1,e1.2.2.2⟩,⟨h1,e1.1,e1.2.1,h2⟩⟩
structure Fl' (K:PySem.W.Frag) (mg:Str→Option Value) (st:Stmt) extends Fd K mg "law" st ["_law_script"] where
 bl:∀ (s:Shared) (u:Value),BindsTo s fd ⟨[u],[]⟩ [("_law_script",u)]
noncomputable def Fl'.of {K:PySem.W.Frag} {mg:Str→Option Value} {h:Heap} (KX:K.In h) (G:h.Ns mainGlobals mg) {st:Stmt} (e:FxL K "law" "law" st "_law_script"):Fl' K mg st:=
 have e1:=e.choose_spec.choose_spec
 ⟨⟨⟨e.choose,e.choose_spec.choose,e1.2.1,e1.2.2.1⟩,PySem.W.mg_of KX G e1.1⟩,e1.2.2.2⟩
section
variable {K:PySem.W.Frag} {C:Addr} {x qual p zx zq:Str} {st st':Stmt} {ps:List Str} {f:Addr} {oc:Value} {od an:Option Addr} {osl:Array (Option Value)} {kV doc pm cdv ct:Value}
abbrev Bnd (x qual:Str) (st:Stmt) (ps:List Str):Prop:=∀ (kV doc pm:Value) (an:Option Addr) (cdv ct:Value) (us:List Value),us.length=ps.length→bindArgs (PySem.W.fnOf x qual (bp st) (aS st) (aw st) .none kV doc pm an cdv ct) ⟨us,[]⟩=pure (ps.zip us)
theorem fx2 (es:st=st') (e1:PySem.W.nsIn K mainGlobals x=some (some (.ref f))) (e2:K.lookup f=some ⟨oc,od,.func (PySem.W.fnOf zx zq (bp st') (aS st') (aw st') .none kV doc pm an cdv ct),osl⟩) (e3:PySem.W.codeIn K cdv qual=true) (e4:PySem.W.keepIn K (.ref f)=true)
 (h:Bnd x qual st ps:=by first | (exact fun _ _ _ _ _ _ us hl=>match us,hl with | [_],_=>rfl) | (exact fun _ _ _ _ _ _ us hl=>match us,hl with | [_,_],_=>rfl) | (exact fun _ _ _ _ _ _ us hl=>match us,hl with | [_,_,_],_=>rfl) | (exact fun _ _ _ _ _ _ us hl=>match us,hl with | [_,_,_,_],_=>rfl) | (exact fun _ _ _ _ _ _ us hl=>match us,hl with | [_,_,_,_,_],_=>rfl))
 (ex:x=zx:=by kernel_rfl) (eq:qual=zq:=by kernel_rfl):Fx K x qual st ps:=fx_mk2 ex eq es e1 e2 e3 e4 h
theorem fxl2 (es:st=st') (e1:PySem.W.nsIn K mainGlobals x=some (some (.ref f))) (e2:K.lookup f=some ⟨oc,od,.func (PySem.W.fnOf zx zq (bp st') (aS st') (aw st') .none kV doc pm an cdv ct),osl⟩) (e3:PySem.W.codeIn K cdv qual=true) (e4:PySem.W.keepIn K (.ref f)=true)
 (h:Bnd x qual st [p]:=by (exact fun _ _ _ _ _ _ us hl=>match us,hl with | [_],_=>rfl)) (ex:x=zx:=by kernel_rfl) (eq:qual=zq:=by kernel_rfl):FxL K x qual st p:=fxl_mk2 ex eq es e1 e2 e3 e4 h
theorem fm2 (es:st=st') (e1:PySem.W.findIn K (.ref C) x=some (some (.ref f))) (e2:K.lookup f=some ⟨oc,od,.func (PySem.W.fnOf zx zq (bp st') (aS st') (aw st') .none kV doc pm an cdv ct),osl⟩) (e3:PySem.W.codeIn K cdv qual=true) (e4:PySem.W.keepIn K (.ref f)=true) (e5:PySem.W.isFn K (.ref f)=true)
 (h:Bnd x qual st ps:=by first | (exact fun _ _ _ _ _ _ us hl=>match us,hl with | [_],_=>rfl) | (exact fun _ _ _ _ _ _ us hl=>match us,hl with | [_,_],_=>rfl) | (exact fun _ _ _ _ _ _ us hl=>match us,hl with | [_,_,_],_=>rfl) | (exact fun _ _ _ _ _ _ us hl=>match us,hl with | [_,_,_,_],_=>rfl) | (exact fun _ _ _ _ _ _ us hl=>match us,hl with | [_,_,_,_,_],_=>rfl))
 (ex:x=zx:=by kernel_rfl) (eq:qual=zq:=by kernel_rfl):Fm K C x qual st ps:=fm_mk2 ex eq es e1 e2 e3 e4 e5 h
end
abbrev Ok {K:PySem.W.Frag} {x q:Str} {st:Stmt} {ps:List Str} (P:Program) (w:World) (mg:Str→Option Value) (base:Heap) (k:Nat) (F:Fb K x q st ps) (sp:Sp):Prop:=dY P w K mg base CX0 k F.f F.fd ps sp
def gh (N ps:List Str) (sc:Scope):Bool:=sc.kind==.function&&!sc.isCoroutine&&!sc.isGenerator&&decide N.Nodup&&N.take ps.length==ps&&ps.all (fun x=>sc.names.lookup x==some .local||sc.names.lookup x==some .cell)&&sc.names.all (fun y=>!(y.2==.free))
theorem gh.fs {N ps:List Str} {sc:Scope} (h:gh N ps sc=true):dZ N ps sc:=by
 unfold gh at h
 simp only [Bool.and_eq_true] at h
 obtain ⟨⟨⟨⟨⟨⟨a,b⟩,c⟩,d⟩,e⟩,f⟩,g⟩:=h
 refine ⟨by simpa using a,by simpa using b,by simpa using c,by simpa using d,by simpa using e,fun x hx=>?_,fun y hy z=>?_⟩
 ·
  have:=List.all_eq_true.mp f x hx
  simpa using this
 ·
  have:=List.all_eq_true.mp g y hy
  simp [z] at this
section
variable {P:Program} {w:World} {K:PySem.W.Frag} {mg:Str→Option Value} {base:Heap} {x q:Str} {st:Stmt} {ps:List Str} {k:Nat} {F:FS}
abbrev Bod (P:Program) (w:World) (mg:Str→Option Value) (base:Heap) (k:Nat) (F0:Fb K x q st ps) (L:List Str) (F:FS):Prop:=
 ∀ (cdv:Value) (A:Around) (outer:List Env) (s:Shared) (H:Hp) (E:XK),bC k (A.deeper (PyProof.Rows.envOfC q (aw st) s.heap.objs.size F0.f cdv))→(ps++L).Nodup→DSs (jZ CX0 P w K mg base (ps++L) q (aw st) F0.f cdv A outer s H E).nox (aS st) F
theorem fD {F0:Fb K x q st ps} (L:List Str) (h:Bod P w mg base k F0 L F) (S:gh (ps++L) ps (aw st)=true:=by kernel_rfl):Ok P w mg base (k+1) F0 (spD ps.length (run (ps++L).length F)):=
 fn_D F0.fn (gh.fs S) fun cdv A o s H E hr=>h cdv A o s H E hr (gh.fs S).nd
theorem fN {F0:Fb K x q st ps} (L:List Str) (h:Bod P w mg base k F0 L F) (S:gh (ps++L) ps (aw st)=true:=by kernel_rfl):Ok P w mg base (k+1) F0 (spN ps.length (runN (ps++L).length F)):=
 fn_N F0.fn (gh.fs S) fun cdv A o s H E hr=>h cdv A o s H E hr (gh.fs S).nd
theorem fI {F0:Fb K x q st ps} {C:Addr} {n:Nat} (L:List Str) (h:Bod P w mg base k F0 L F) (hn:ps.length=n+1:=by rfl) (S:gh (ps++L) ps (aw st)=true:=by kernel_rfl):Ok P w mg base (k+1) F0 (spIN C n (fun ds=>unif fun p=>iU (ps++L).length C F ds p)):=
 fn_IN hn F0.fn (gh.fs S) (fun ds fs h=>unif_all h) fun cdv A o s H E hr=>h cdv A o s H E hr (gh.fs S).nd
theorem fS {p1 p2:Str} {F0:Fb K x q st [p1,p2]} (L:List Str) (h:Bod P w mg base k F0 L F) (S:gh ([p1,p2]++L) [p1,p2] (aw st)=true:=by kernel_rfl):Ok P w mg base (k+1) F0 (spS K (runS ([p1,p2]++L).length K F)):=
 fn_S F0.fn (gh.fs S) (by simp) fun cdv A o s H E hr=>h cdv A o s H E hr (gh.fs S).nd
theorem fL {p1:Str} {F0:Fb K x q st [p1]} (L:List Str) (h:Bod P w mg base k F0 L F) (S:gh ([p1]++L) [p1] (aw st)=true:=by kernel_rfl):Ok P w mg base (k+1) F0 (spL K (runL ([p1]++L).length K F)):=
 fn_L F0.fn (gh.fs S) (by simp) fun cdv A o s H E hr=>h cdv A o s H E hr (gh.fs S).nd
end
section
variable {X:Cx} {a b c d e o:Expr} {es:List Expr} {fa fb fc fd fo f:FE} {g:FN} {fr:DSt→Option (List R)} {x y q:Str} {st:Stmt} {ps:List Str} {p pos pos' apos:Pos} {i j k n m':Nat} {C:Addr} {m:List D→Option D} {F G:FS} {body:List Stmt}
theorem dv (hN:X.N[i]?=some x:=by rfl) (hv:Vis X.env.scope x:=by first | exact Or.inl rfl | exact Or.inr (Or.inl rfl) | exact Or.inr (Or.inr rfl)) (hd:(x==("__debug__" : Str))=false:=by decide)
 (hcd:(x==("__classdict__" : Str))=false:=by decide):DE X (.Name x pos) (ab i):=de_var (pv i hN hv hd hcd)
theorem dk {z:Int} (h:∃ t,X.mg x=some (.int z t)) (hg:Gl X x:=by rfl) (hd:(x==("__debug__" : Str))=false:=by decide):DE X (.Name x pos) (ac (.int z)):=by
 obtain ⟨t,h⟩:=h
 exact mP (pe_glob (v:=.int z) hg h ⟨_,rfl⟩ hd) fun H=>by unfold Rep;rfl
theorem dx (ha:DE X a fa) (hb:DE X b fb) (hs:kq b:=by exact fun _ _=>rfl):DE X (.Subscript a b pos) (ad oIx fa fb):=de_ix ix_oIx ha hb hs
theorem d1 (ha:DE X e fa) (hs:starEach [e] X.env=(false,eval e X.env)::starEach [] X.env:=by exact bP rfl):DA X [e] (aa fa ah):=ae ha fO hs
theorem du {F:Fd X.K X.mg x st ps} (G:Ok X.prog X.w X.mg X.base k F.toFb (spD n m)) (hr:bC j X.A) (ha:DA X (e::es) fr) (hk:k≤j:=by decide)
 (hg:Gl X x:=by rfl) (hdb:(x==("__debug__" : Str))=false:=by decide) (he:starEach (e::es) X.env=(false,eval e X.env)::starEach es X.env:=by exact bP rfl) (hpl:(backTo pos (starEach es X.env)).any (·.1)=false:=by rfl) :
 DE X (.Call (.Name x p) (e::es) [] pos) (ao n m fr):=de_u ⟨F.fn,F.mgx,F.bd⟩ G (hr.mono hk) ha hg hdb he hpl
theorem nu {F:Fd X.K X.mg x st ps} (G:Ok X.prog X.w X.mg X.base k F.toFb (spN n m)) (hr:bC j X.A) (ha:DA X (e::es) fr) (hk:k≤j:=by decide)
 (hg:Gl X x:=by rfl) (hdb:(x==("__debug__" : Str))=false:=by decide) (he:starEach (e::es) X.env=(false,eval e X.env)::starEach es X.env:=by exact bP rfl) (hpl:(backTo pos (starEach es X.env)).any (·.1)=false:=by rfl) :
 DN X (.Call (.Name x p) (e::es) [] pos) (jM n m fr):=dn_u ⟨F.fn,F.mgx,F.bd⟩ G (hr.mono hk) ha hg hdb he hpl
theorem nk {F:Ni X.K C q st ps} {m:List D→Option (List (Str×D))} (c:Cd X.K X.mg C x) (G:Ok X.prog X.w X.mg X.base k F.toFb (spIN C n m)) (hr:bC j X.A) (ha:DA X (e::es) fr) (hk:k+1≤j:=by decide)
 (hg:Gl X x:=by rfl) (hdb:(x==("__debug__" : Str))=false:=by decide) (he:starEach (e::es) X.env=(false,eval e X.env)::starEach es X.env:=by exact bP rfl) (hpl:(backTo pos (starEach es X.env)).any (·.1)=false:=by rfl) :
 DN X (.Call (.Name x p) (e::es) [] pos) (f6 C n m fr):=dn_mk F.mk' G F.bd c.g (hr.mono hk) ha hg hdb he hpl
theorem dm {F:Md X.K C x q st ps} {pl:Sem Bool} (c:Cls X.K C) (G:Ok X.prog X.w X.mg X.base k F.toFb (spD n m)) (hr:bC j X.A) (ho:DE X o fo) (ha:DA X (e::es) fr) (hk:k≤j:=by decide)
  (hst:starEach (e::es) X.env=(false,eval e X.env)::starEach es X.env:=by rfl) (hpl:(backTo pos (starEach es X.env)).any (·.1)=false:=by rfl)
  (ht:eval (.Call (.Attribute o x apos) (e::es) [] pos) X.env=(do
   let ov ←eval o X.env
   standAt apos.atName
   let (f,first) ←holding [ov] (getMethod ov x pl)
   callWith pos f first (backTo pos (starEach (e::es) X.env)) (backToKw pos (keywordEach [] X.env))):=by rfl):DE X (.Call (.Attribute o x apos) (e::es) [] pos) (bQ C x n m fo fr):=
 de_m (pe_meth (E:=E0) ho.go c F.mt G (hr.mono hk) F.bd .nil lU ha.go hst hpl ht)
theorem dm0 {F:Md X.K C x q st ps} {pl:Sem Bool} (c:Cls X.K C) (G:Ok X.prog X.w X.mg X.base k F.toFb (spD n m)) (hr:bC j X.A) (ho:DE X o fo) (hk:k≤j:=by decide)
  (ht:eval (.Call (.Attribute o x apos) [] [] pos) X.env=(do
   let ov ←eval o X.env
   standAt apos.atName
   let (f,first) ←holding [ov] (getMethod ov x pl)
   callWith pos f first (backTo pos (starEach [] X.env)) (backToKw pos (keywordEach [] X.env))):=by rfl):DE X (.Call (.Attribute o x apos) [] [] pos) (bQ C x n m fo ah):=
 de_m0 (pe_meth0 (E:=E0) ho.go c F.mt G (hr.mono hk) F.bd .nil lU ht)
theorem duS {F:Fd X.K X.mg y st ps} {m:List Int→Int→Option Int} {py:Pos} (G:Ok X.prog X.w X.mg X.base k F.toFb (spS X.K m)) (hr:bC j X.A) (h:PE X (.Name x p) (jY i)) (hb:DE X e f) (hk:k≤j:=by decide)
 (hg:Gl X y:=by rfl) (hdb:(y==("__debug__" : Str))=false:=by decide) (he:starEach [.Name x p,e] X.env=(false,eval (.Name x p) X.env)::starEach [e] X.env:=by exact bP rfl) (hs:starEach [e] X.env=[(false,eval e X.env)]:=by exact bP rfl) (hpl:(backTo pos (starEach [e] X.env)).any (·.1)=false:=by rfl) :
 DE X (.Call (.Name y py) [.Name x p,e] [] pos) (eJ X.K i m f):=de_callS ⟨F.fn,F.mgx,F.bd⟩ G (hr.mono hk) h hb hg hdb he hs hpl
theorem df (ho:DE X o fo) (hc:Cls X.K C) (hk:NoAttr X.K C x) (hb:attributeBase o x X.env (eval o X.env)=eval o X.env:=by rfl):DE X (.Attribute o x pos) (cT (isC C) x fo):=de_fld ho (fun C' h=>by rw [isC_of h];exact ⟨hc,hk⟩) hb
theorem ii_int (he:DE X e f) (h1:X.mg "int" = none) (h2:X.mg "isinstance" = none) (hs:starEach [e,.Name "int" p] X.env=(false,eval e X.env)::starEach [.Name "int" p] X.env:=by rfl) (hg:Gl X "int":=by rfl) (hg2:Gl X "isinstance":=by rfl) :
 DE X (.Call (.Name "isinstance" apos) [e,.Name "int" p] [] pos) (av dA f):=fy he (kn (v:=.ty "int") hg h1 PyProof.Rows.boot_int rfl) (.inl ⟨_,rfl⟩) rfl (kk_int _) hg2 h2 hs
theorem m6 (he:DE X e f) (h1:X.mg "bool" = none) (h2:X.mg "isinstance" = none) (hs:starEach [e,.Name "bool" p] X.env=(false,eval e X.env)::starEach [.Name "bool" p] X.env:=by rfl) (hg:Gl X "bool":=by rfl) (hg2:Gl X "isinstance":=by rfl) :
 DE X (.Call (.Name "isinstance" apos) [e,.Name "bool" p] [] pos) (av is_bool f):=fy he (kn (v:=.ty "bool") hg h1 PyProof.Rows.boot_bool rfl) (.inl ⟨_,rfl⟩) rfl (kk_bool _) hg2 h2 hs
theorem iW (he:DE X e f) (h1:X.mg "list" = none) (h2:X.mg "isinstance" = none) (hs:starEach [e,.Name "list" p] X.env=(false,eval e X.env)::starEach [.Name "list" p] X.env:=by rfl) (hg:Gl X "list":=by rfl) (hg2:Gl X "isinstance":=by rfl) :
 DE X (.Call (.Name "isinstance" apos) [e,.Name "list" p] [] pos) (av cn f):=fy he (kn (v:=.ty "list") hg h1 PyProof.Rows.boot_list rfl) (.inl ⟨_,rfl⟩) rfl (kk_list _) hg2 h2 hs
theorem ot (he:DE X e f) (h1:X.mg "tuple" = none) (h2:X.mg "isinstance" = none) (hs:starEach [e,.Name "tuple" p] X.env=(false,eval e X.env)::starEach [.Name "tuple" p] X.env:=by rfl) (hg:Gl X "tuple":=by rfl) (hg2:Gl X "isinstance":=by rfl) :
 DE X (.Call (.Name "isinstance" apos) [e,.Name "tuple" p] [] pos) (av eH f):=fy he (kn (v:=.ty "tuple") hg h1 PyProof.Rows.boot_tuple rfl) (.inl ⟨_,rfl⟩) rfl (kk_tuple _) hg2 h2 hs
theorem ii_c {ans:D→Option Bool} (he:DE X e f) (h1:Cd X.K X.mg C x) (hk:Ka X.K ans C) (h2:X.mg "isinstance" = none) (hs:starEach [e,.Name x p] X.env=(false,eval e X.env)::starEach [.Name x p] X.env:=by rfl) (hg:Gl X x:=by rfl) (hg2:Gl X "isinstance":=by rfl) (hd:(x==("__debug__" : Str))=false:=by decide) :
 DE X (.Call (.Name "isinstance" apos) [e,.Name x p] [] pos) (av ans f):=fy he (pe_glob (v:=.ref C) hg h1.g rfl hd) (.inr ⟨_,rfl⟩) rfl hk hg2 h2 hs
theorem cD (hm:X.mg "len" = none) (ha:DE X e f) (hg:Gl X "len":=by rfl) (he:starEach [e] X.env=(false,eval e X.env)::starEach [] X.env:=by exact bP rfl):DE X (.Call (.Name "len" p) [e] [] pos) (aA bJ (aa f ah)):=de_b1 c_len PySem.boot_len hm (d1 ha he) hg (he:=he)
theorem ml (hm:X.mg "all" = none) (ha:DE X e f) (hc:X.calm=true:=by rfl) (hg:Gl X "all":=by rfl) (he:starEach [e] X.env=(false,eval e X.env)::starEach [] X.env:=by exact bP rfl):DE X (.Call (.Name "all" p) [e] [] pos) (aA jo (aa f ah)):=de_b1 (c_all hc) PyProof.Rows.boot_all hm (d1 ha he) hg (he:=he)
theorem c_eq (ha:DE X a fa) (hb:DE X b fb) (hr:bC j X.A):DE X (.Compare a [.Eq] [b] pos) (ad oEq fa fb):=mR (op_oEq (hu64 hr)) ha hb (ji _)
theorem c_ne (ha:DE X a fa) (hb:DE X b fb) (hr:bC j X.A):DE X (.Compare a [.NotEq] [b] pos) (ad oNe fa fb):=mR (op_oNe (hu64 hr)) ha hb (ji _)
theorem c_in (ha:DE X a fa) (hb:DE X b fb) (hr:bC j X.A) (hm:behindInMarks .In b=false:=by with_unfolding_all rfl):DE X (.Compare a [.In] [b] pos) (ad oIn fa fb):=mR (op_oIn (hu64 hr)) ha hb hm
theorem t_eq (ha:DE X a fa) (hb:DE X b fb) (hr:bC j X.A):DT X (.Compare a [.Eq] [b] pos) (aj (ad oEq fa fb)):=kK (op_oEq (hu64 hr)) ha hb (ji _)
theorem iX (ha:DE X a fa) (hb:DE X b fb) (hr:bC j X.A):DT X (.Compare a [.NotEq] [b] pos) (aj (ad oNe fa fb)):=kK (op_oNe (hu64 hr)) ha hb (ji _)
theorem t_in (ha:DE X a fa) (hb:DE X b fb) (hr:bC j X.A) (hm:behindInMarks .In b=false:=by with_unfolding_all rfl):DT X (.Compare a [.In] [b] pos) (aj (ad oIn fa fb)):=kK (op_oIn (hu64 hr)) ha hb hm
theorem t_ni (ha:DE X a fa) (hb:DE X b fb) (hr:bC j X.A) (hm:behindInMarks .NotIn b=false:=by with_unfolding_all rfl):DT X (.Compare a [.NotIn] [b] pos) (aj (ad oNotIn fa fb)):=kK (op_oNotIn (hu64 hr)) ha hb hm
theorem dc2 {op:CmpOp} {o:D→D→Option R} (ho:OpR X (compareOp op) (rD o)) (ha:DE X a fa) (hb:DE X b fb) (hm:behindInMarks op b=false:=by exact ji _):DE X (.Compare a [op] [b] pos) (ad o fa fb):=mR ho ha hb hm
theorem tc2 {op:CmpOp} {o:D→D→Option R} (ho:OpR X (compareOp op) (rD o)) (ha:DE X a fa) (hb:DE X b fb) (hm:behindInMarks op b=false:=by exact ji _):DT X (.Compare a [op] [b] pos) (aj (ad o fa fb)):=kK ho ha hb hm
theorem t_and {tf tg:DSt→Option Bool} (ha:DT X a tf) (hb:DT X b tg):DT X (.BoolOp .And [a,b] pos) (fv tf tg):=(dw_and ha (dw_and1 hb)).dt
theorem ju {tf tg:DSt→Option Bool} (ha:DT X a tf) (hb:DT X b tg):DT X (.BoolOp .Or [a,b] pos) (bo tf tg):=(lW ha (dw_or1 hb)).dt
theorem t_or3 {tf tg th:DSt→Option Bool} (ha:DT X a tf) (hb:DT X b tg) (hc:DT X c th):DT X (.BoolOp .Or [a,b,c] pos) (bo tf (bo tg th)):=(lW ha (lW hb (dw_or1 hc))).dt
abbrev Inn (X:Cx) (N:List Str) (scope:Scope) (tg elt:Expr) (ifs:List Expr) (ks:List Nat) (g:GD) (c:DSt→Option Bool) (fe:FE):Prop:=N.Nodup→∀ cl C s H fp,DG (bv X N scope cl C s H fp) tg ks g∧DIfs (bv X N scope cl C s H fp) ifs c∧DE (bv X N scope cl C s H fp) elt fe
abbrev InN (X:Cx) (N:List Str) (scope:Scope) (tg elt:Expr) (ifs:List Expr) (ks:List Nat) (g:GD) (c:DSt→Option Bool) (fe:FN):Prop:=N.Nodup→∀ cl C s H fp,DG (bv X N scope cl C s H fp) tg ks g∧DIfs (bv X N scope cl C s H fp) ifs c∧DN (bv X N scope cl C s H fp) elt fe
section
variable {scope:Scope} {tg iter elt:Expr} {ifs:List Expr} {ks ix:List Nat} {fi:DSt→Option (List D)} {g:GD} {c:DSt→Option Bool} {fe:FE} {fn:FN} {spos py:Pos}
theorem dc (N:List Str) (hi:DI X tg iter fi) (hin:Inn X N scope tg elt ifs ks g c fe) (hc:X.calm=true:=by rfl) (S:kN X.env.scope X.N N n ix scope=true:=by kernel_rfl) (nd:N.Nodup:=by decide +kernel) (hk:∀ j∈ks,j<n:=by decide)
 (hs:∀ x,foldedSetIterable iter X.env x=pure x:=by intro _;rfl):DE X (.ListComp elt [⟨tg,iter,ifs,0⟩] scope pos) (bD fi g c fe n ix):=de_comp hc (jn rfl rfl S) hk hi (hin nd) hs
theorem nc (N:List Str) (hi:DI X tg iter fi) (hin:InN X N scope tg elt ifs ks g c fn) (hc:X.calm=true:=by rfl) (S:kN X.env.scope X.N N n ix scope=true:=by kernel_rfl) (nd:N.Nodup:=by decide +kernel) (hk:∀ j∈ks,j<n:=by decide)
 (hs:∀ x,foldedSetIterable iter X.env x=pure x:=by intro _;rfl):DN X (.ListComp elt [⟨tg,iter,ifs,0⟩] scope pos) (kS fi g c fn n ix):=dn_comp hc (jn rfl rfl S) hk hi (hin nd) hs
theorem sc (N:List Str) (hN:X.N.Nodup) (hi:DI X tg iter fi) (hin:Inn X N scope tg elt ifs ks g c fe) (hc:X.calm=true:=by rfl) (S:kN X.env.scope X.N N n ix scope=true:=by kernel_rfl) (nd:N.Nodup:=by decide +kernel) (hk:∀ j∈ks,j<n:=by decide)
 (hiy:X.N[i]?=some y:=by rfl) (hy:Loc X.env.scope y:=by first | exact .inl rfl | exact .inr rfl)
 (hsw:swapsWith (.ListComp elt [⟨tg,iter,ifs,0⟩] scope pos) (some (.Name y py)) spos.line X.env=pure true:=by rfl) (hf:X.fn y=true∨X.env.scope.names.lookup y=some .local:=by first | exact .inl rfl | exact .inr rfl | assumption)
 (hs:∀ x,foldedSetIterable iter X.env x=pure x:=by intro _;rfl):DS X (.Assign [.Name y py] (.ListComp elt [⟨tg,iter,ifs,0⟩] scope pos) spos) (sset i (bD fi g c fe n ix)):=ds_comp hc (jn rfl rfl S) hk hi (hin nd) hN hiy hy hsw hf hs
theorem gn (hN:X.N.Nodup) (hi:X.N[i]?=some x:=by rfl) (hx:Loc X.env.scope x:=by first | exact .inl rfl | exact .inr rfl) (hf:X.fn x=true∨X.env.scope.names.lookup x=some .local:=by first | exact .inl rfl | exact .inr rfl | assumption):DG X (.Name x pos) [i] (au i):=dg_name (pg_name hN hi hx hf)
theorem g2 {k:Nat} {js:List Nat} {g':GD} (h1:DG X a ks g) (h2:DG X b js g') (hc:X.calm=true:=by rfl) (e1:(assignEach [a,b] X.env).map (·.2)=assign a X.env::(assignEach [b] X.env).map (·.2):=by rfl) (e2:(assignEach [b] X.env).map (·.2)=assign b X.env::(assignEach [] X.env).map (·.2):=by rfl)
 (hn:(assignEach [a,b] X.env).length=2:=by rfl) (hst:(assignEach [a,b] X.env).findIdx? (·.1)=none:=by rfl):DG X (.Tuple [a,b] k pos) (ks++(js++[])) (jl 2 (cf g (cf g' j4))):=dg_tup hc (nV h1 (nV h2 dgs_nil e2) e1) hn hst
theorem sf (hi:DI X tg iter fi) (hg:DG X tg ks g) (hb:DSs X body F) (hc:X.calm=true:=by rfl) (hp:PassesOwn (model X.prog X.w) X.A X.env X.xe:=by exact PassesOwn.never) (hs:∀ x,foldedSetIterable iter X.env x=pure x:=by intro _;rfl):DS X (.For tg iter body [] pos) (bV fi g F):=ds_for hp hc hi hg hb hs
theorem sw {t:DSt→Option Bool} (ht:DT X a t) (hb:DSs X body F) (hp:PassesOwn (model X.prog X.w) X.A X.env X.xe:=by exact PassesOwn.never):DS X (.While a body [] pos) (cU t F n):=ds_while n hp ht hb
theorem ir (hm:X.mg "range" = none) (ha:DE X a fa) (hg:Gl X "range":=by rfl) (hs:starEach [a] X.env=[(false,eval a X.env)]:=by exact bP rfl):DI X tg (.Call (.Name "range" p) [a] [] pos) (eS (aa fa ah)):=di_range1 hg hm (d1 ha hs) hs
end
theorem sA (hN:X.N.Nodup) (he:DE X e f) (hi:X.N[i]?=some x:=by rfl) (hx:Loc X.env.scope x:=by first | exact .inl rfl | exact .inr rfl) (hs:swapsWith e (some (.Name x pos')) pos.line X.env=pure false:=by rfl)
 (hf:X.fn x=true∨X.env.scope.names.lookup x=some .local:=by first | exact .inl rfl | exact .inr rfl | assumption):DS X (.Assign [.Name x pos'] e pos) (sset i f):=ds_set hN hi hx he hs hf
theorem stB (hN:X.N.Nodup) (he:DE X e f) (hi:X.N[k]?=some x:=by rfl) (hx:Loc X.env.scope x:=by first | exact .inl rfl | exact .inr rfl) (hs:swapsWith e (some (.Name x pos')) pos.line X.env=pure false:=by rfl)
 (hf:X.fn x=true∨X.env.scope.names.lookup x=some .local:=by first | exact .inl rfl | exact .inr rfl | assumption):DS X (.Assign [.Name x pos'] e pos) (mh i k f):=ds_setB hN hi hx he hs hf
theorem stN (hN:X.N.Nodup) (he:DN X e g) (hi:X.N[i]?=some x:=by rfl) (hx:Loc X.env.scope x:=by first | exact .inl rfl | exact .inr rfl) (hs:swapsWith e (some (.Name x pos')) pos.line X.env=pure false:=by rfl)
 (hf:X.fn x=true∨X.env.scope.names.lookup x=some .local:=by first | exact .inl rfl | exact .inr rfl | assumption):DS X (.Assign [.Name x pos'] e pos) (iT i g):=ds_setN hN hi hx he hs hf
theorem sg {op:Operator} {g:Int→Int→Int} (hN:X.N.Nodup) (he:DE X e f) (ho:PIp X op (ipI g)) (hi:X.N[i]?=some x:=by rfl) (hx:Loc X.env.scope x:=by first | exact .inl rfl | exact .inr rfl)
 (hf:X.fn x=true∨X.env.scope.names.lookup x=some .local:=by first | exact .inl rfl | exact .inr rfl | assumption):DS X (.AugAssign (.Name x pos') op e pos) (j6 g i f):=ds_aug hN hi hx he ho hf
theorem i0 {t:DSt→Option Bool} (hc:DT X c t) (ha:DSs X body F):DS X (.If c body [] pos) (sif t F aD):=ds_if hc ha dss_nil
theorem iB0 {t:DSt→Option Bool} (hc:DT X c t) (ha:DSs X body F):DS X (.If c body [] pos) (dN i t F aD):=ds_ifB hc ha dss_nil
end
end Ew
end
section
set_option linter.all false
namespace Mx
section
variable {P N:Type} [DecidableEq P] [DecidableEq N]
abbrev Wlk (P N:Type):=List P×List N
def al (w:Wlk P N):List (P×P×N):=w.1.zip (w.1.tail.zip w.2)
theorem lD (qs:List P) (ns:List N) (b c:P) (n:N) (h:qs.length=ns.length) :
  al (qs++[b]++[c],ns++[n])=al (qs++[b],ns)++[(b,c,n)]:=by
 induction qs generalizing ns with
 | nil=>cases ns with
  | nil=>rfl
  | cons m ns=>simp at h
 | cons q qs ih=>cases ns with
  | nil=>simp at h
  | cons m ns=>
   have:=ih ns (by simpa using h)
   cases qs with
   | nil=>cases ns with
    | nil=>rfl
    | cons _ _=>simp at h
   | cons q' qs=>simp [al] at this ⊢;exact this
theorem m7 {ps:List P} {ns:List N} {b c:P} {n:N} (hl:ps.getLast?=some b) (h:ps.length=ns.length+1) :
  al (ps++[c],ns++[n])=al (ps,ns)++[(b,c,n)]:=by
 obtain ⟨qs,rfl⟩ : ∃ qs,ps=qs++[b]:=by
  rw [List.getLast?_eq_some_iff] at hl;exact hl
 exact lD qs ns b c n (by simpa using h)
inductive Sw (L:List (P×P×N)) (ends:List P) (a:P):P→List P→List N→Prop
 | nil:Sw L ends a a [a] []
 | snoc {b ps ns c n}:Sw L ends a b ps ns→(b,c,n)∈L→c∉ps→b∉ends→Sw L ends a c (ps++[c]) (ns++[n])
namespace Sw
variable {L:List (P×P×N)} {ends:List P} {a b:P} {ps:List P} {ns:List N}
theorem last (h:Sw L ends a b ps ns):ps.getLast?=some b:=by cases h <;> simp
theorem head (h:Sw L ends a b ps ns):ps.head?=some a:=by
 induction h with
 | nil=>rfl
 | snoc h1 _ _ _ ih=>rw [List.head?_append,ih];rfl
theorem len (h:Sw L ends a b ps ns):ps.length=ns.length+1:=by
 induction h with
 | nil=>rfl
 | snoc h1 _ _ _ ih=>simp [ih]
theorem nodup (h:Sw L ends a b ps ns):ps.Nodup:=by
 induction h with
 | nil=>simp
 | snoc h1 _ hc _ ih=>
  rw [List.nodup_append]
  refine ⟨ih,by simp,?_⟩
  intro x hx y hy
  simp at hy
  subst hy
  intro e
  subst e
  exact hc hx
theorem memA (h:Sw L ends a b ps ns):a∈ps:=by
 induction h with
 | nil=>simp
 | snoc h1 _ hc _ ih=>simp [ih]
theorem memB (h:Sw L ends a b ps ns):b∈ps:=by
 cases h <;> simp
theorem steps_snoc {c n} (h:Sw L ends a b ps ns):al (ps++[c],ns++[n])=al (ps,ns)++[(b,c,n)]:=m7 h.last h.len
theorem step (h:Sw L ends a b ps ns):∀ s∈al (ps,ns),s∈L∧s.1∈ps∧s.2.1∈ps∧s.2.2∈ns∧s.2.1≠a∧s.1∉ends:=by
 induction h with
 | nil=>intro s hs;simp [al] at hs
 | snoc h1 hL hc hb ih=>
  intro s hs
  rw [h1.steps_snoc] at hs
  simp at hs
  rcases hs with hs | hs
  ·
   obtain ⟨i1,i2,i3,i4,i5,i6⟩:=ih s hs
   exact ⟨i1,by simp [i2],by simp [i3],by simp [i4],i5,i6⟩
  ·
   subst hs
   refine ⟨hL,by simp [h1.memB],by simp,by simp,?_,hb⟩
   intro e
   simp at e
   subst e
   exact hc h1.memA
theorem names (h:Sw L ends a b ps ns):(al (ps,ns)).map (·.2.2)=ns:=by
 induction h with
 | nil=>rfl
 | snoc h1 hL hc hb ih=>rw [h1.steps_snoc];simp [ih]
theorem stepsNodup (h:Sw L ends a b ps ns):(al (ps,ns)).Nodup:=by
 induction h with
 | nil=>simp [al]
 | snoc h1 hL hc hb ih=>
  rw [h1.steps_snoc,List.nodup_append]
  refine ⟨ih,by simp,?_⟩
  intro x hx y hy e
  simp at hy
  subst hy
  subst e
  exact hc (h1.step _ hx).2.2.1
theorem namesNodup (h:Sw L ends a b ps ns) (U:∀ s∈L,∀ t∈L,s.2.2=t.2.2→t=s∨t=(s.2.1,s.1,s.2.2)):ns.Nodup:=by
 induction h with
 | nil=>simp
 | snoc h1 hL hc hb ih=>
  rw [List.nodup_append]
  refine ⟨ih,by simp,?_⟩
  intro x hx y hy e
  simp at hy
  subst hy
  subst e
  rw [←h1.names] at hx
  simp only [List.mem_map] at hx
  obtain ⟨s,hs,e⟩:=hx
  have q:=h1.step s hs
  rcases U s q.1 _ hL e with e' | e'
  ·
   rw [←e'] at q;exact hc q.2.2.1
  ·
   have:s.1=_:=(congrArg (fun (x:P×P×N)=>x.2.1) e').symm
   simp at this
   rw [this] at q
   exact hc q.2.1
theorem mono {L':List (P×P×N)} (h:Sw L ends a b ps ns) (hL:∀ s∈L,s∈L'):Sw L' ends a b ps ns:=by
 induction h with
 | nil=>exact .nil
 | snoc h1 h2 hc hb ih=>exact .snoc ih (hL _ h2) hc hb
end Sw
def scan1 (w:Wlk P N) (q:List (Wlk P N)×List P) (s:P×P×N):List (Wlk P N)×List P:=
 if w.1.getLast?=some s.1∧s.2.1∉q.2 then (q.1++[(w.1++[s.2.1],w.2++[s.2.2])],q.2++[s.2.1]) else q
def scan (L:List (P×P×N)) (w:Wlk P N) (q:List (Wlk P N)×List P):=L.foldl (scan1 w) q
def il (ends:List P) (w:Wlk P N):Bool:=match w.1.getLast? with
 | some b=>decide (b∈ends)
 | none=>false
def bfs (L:List (P×P×N)) (ends:List P):Nat→Nat→List (Wlk P N)×List P→Option (Wlk P N)
 | 0,_,_=>none
 | f+1,k,q=>match q.1[k]? with
  | none=>none
  | some w=>if il ends w then some w else bfs L ends f (k+1) (scan L w q)
def cX (n:Nat) (L:List (P×P×N)) (a:P) (ends:List P):Option (Wlk P N):=bfs L ends n 0 ([([a],[])],[a])
structure Inv (L L0:List (P×P×N)) (ends:List P) (a:P) (q:List (Wlk P N)×List P):Prop where
 nd:q.2.Nodup
 ls:q.1.map (fun w=>w.1.getLast?)=q.2.map some
 ok:∀ w∈q.1,∃ b,Sw L0 ends a b w.1 w.2∧∀ p∈w.1,p∈q.2
 sub:∀ p∈q.2,p=a∨∃ s∈L0,s.2.1=p
 ha:a∈q.2
theorem scan1_inv {L L0:List (P×P×N)} {ends:List P} {a b:P} {q:List (Wlk P N)×List P} {w:Wlk P N} {s:P×P×N}
  (I:Inv L L0 ends a q) (hw:Sw L0 ends a b w.1 w.2) (hm:∀ p∈w.1,p∈q.2) (hb:b∉ends) (hs:s∈L0) :
  Inv L L0 ends a (scan1 w q s)∧(∃ e,(scan1 w q s).1=q.1++e)∧(∃ e,(scan1 w q s).2=q.2++e)∧(s.1=b→s.2.1∈(scan1 w q s).2):=by
 unfold scan1
 rw [hw.last]
 split
 ·
  rename_i h
  obtain ⟨h1,h2⟩:=h
  simp at h1
  subst h1
  refine ⟨⟨?_,?_,?_,?_,?_⟩,⟨_,rfl⟩,⟨_,rfl⟩,by simp⟩
  ·
   rw [List.nodup_append]
   refine ⟨I.nd,by simp,?_⟩
   intro x hx y hy e
   simp at hy
   subst hy;subst e
   exact h2 hx
  ·
   simp [I.ls]
  ·
   intro w' hw'
   simp at hw'
   rcases hw' with hw' | hw'
   ·
    obtain ⟨b',i1,i2⟩:=I.ok w' hw'
    exact ⟨b',i1,fun p hp=>by simp [i2 p hp]⟩
   ·
    subst hw'
    refine ⟨s.2.1,.snoc hw hs (fun h=>h2 (hm _ h)) hb,?_⟩
    intro p hp
    simp at hp ⊢
    rcases hp with hp | hp
    ·
     exact .inl (hm p hp)
    ·
     exact .inr hp
  ·
   intro p hp
   simp at hp
   rcases hp with hp | hp
   ·
    exact I.sub p hp
   ·
    exact .inr ⟨s,hs,hp.symm⟩
  ·
   simp [I.ha]
 ·
  rename_i h
  refine ⟨I,⟨[],by simp⟩,⟨[],by simp⟩,?_⟩
  intro e
  subst e
  simp at h
  exact h
theorem kW {L0:List (P×P×N)} {ends:List P} {a b:P} {w:Wlk P N} (hw:Sw L0 ends a b w.1 w.2) (hb:b∉ends) :
  ∀ (L:List (P×P×N)) (q:List (Wlk P N)×List P),(∀ s∈L,s∈L0)→Inv L0 L0 ends a q→(∀ p∈w.1,p∈q.2)→
  Inv L0 L0 ends a (scan L w q)∧(∃ e,(scan L w q).1=q.1++e)∧(∃ e,(scan L w q).2=q.2++e)∧(∀ s∈L,s.1=b→s.2.1∈(scan L w q).2)
 | [],q,_,I,hm=>⟨I,⟨[],by simp [scan]⟩,⟨[],by simp [scan]⟩,by simp⟩
 | s::L,q,hL,I,hm=>by
  obtain ⟨i1,⟨e1,j1⟩,⟨e2,j2⟩,i4⟩:=scan1_inv I hw hm hb (hL s (by simp))
  have hm':∀ p∈w.1,p∈(scan1 w q s).2:=fun p hp=>by rw [j2];simp [hm p hp]
  obtain ⟨k1,⟨f1,l1⟩,⟨f2,l2⟩,k4⟩:=kW hw hb L (scan1 w q s) (fun t ht=>hL t (by simp [ht])) i1 hm'
  have e:scan (s::L) w q=scan L w (scan1 w q s):=rfl
  rw [e]
  refine ⟨k1,⟨e1++f1,by rw [l1,j1];simp⟩,⟨e2++f2,by rw [l2,j2];simp⟩,?_⟩
  intro t ht et
  simp at ht
  rcases ht with ht | ht
  ·
   subst ht
   rw [l2]
   exact List.mem_append.2 (.inl (i4 et))
  ·
   exact k4 t ht et
structure Shut (L:List (P×P×N)) (a:P) (S:List P):Prop where
 ha:a∈S
 cl:∀ s∈L,s.1∈S→s.2.1∈S
def BfsOk (L:List (P×P×N)) (a:P) (ends:List P):Option (Wlk P N)→Prop
 | some w=>∃ b,b∈ends∧Sw L ends a b w.1 w.2
 | none=>∃ S,Shut L a S∧∀ p∈S,p∉ends
theorem m8 {L:List (P×P×N)} {ends:List P} {a:P} {q:List (Wlk P N)×List P} (I:Inv L L ends a q):q.1.length≤L.length+1:=by
 have h1:q.1.length=q.2.length:=by have:=congrArg List.length I.ls;simpa using this
 have h2:=List.Nodup.length_le_of_subset (l₂:=a::L.map (·.2.1)) I.nd (by
  intro p hp
  rcases I.sub p hp with e | ⟨s,hs,e⟩
  ·
   simp [e]
  ·
   simp only [List.mem_cons,List.mem_map];exact .inr ⟨s,hs,e⟩)
 simp at h2
 omega
theorem bfs_ok {L:List (P×P×N)} {ends:List P} {a:P}:∀ (f k:Nat) (q:List (Wlk P N)×List P),Inv L L ends a q→
  (∀ i,i<k→∀ w,q.1[i]?=some w→il ends w=false∧∀ s∈L,w.1.getLast?=some s.1→s.2.1∈q.2)→k≤q.1.length→L.length+2≤f+k→
  BfsOk L a ends (bfs L ends f k q)
 | 0,k,q,I,_,hk,hf=>by have:=m8 I;omega
 | f+1,k,q,I,hd,hk,hf=>by
  unfold bfs
  split
  ·
   rename_i hn
   have hk':k=q.1.length:=by
    rw [List.getElem?_eq_none_iff] at hn;omega
   have key:∀ p∈q.2,∃ i w,i<k∧q.1[i]?=some w∧w.1.getLast?=some p:=by
    intro p hp
    have:some p∈q.1.map (fun w=>w.1.getLast?):=by rw [I.ls];simp [hp]
    rw [List.mem_map] at this
    obtain ⟨w,hw,e⟩:=this
    obtain ⟨i,hi,e'⟩:=List.mem_iff_getElem.1 hw
    exact ⟨i,w,by omega,by simp [e',hi],e⟩
   refine ⟨q.2,⟨I.ha,?_⟩,?_⟩
   ·
    intro s hs hp
    obtain ⟨i,w,hi,hw,hl⟩:=key s.1 hp
    exact (hd i hi w hw).2 s hs hl
   ·
    intro p hp he
    obtain ⟨i,w,hi,hw,hl⟩:=key p hp
    have:=(hd i hi w hw).1
    simp [il,hl,he] at this
  ·
   rename_i w hw
   obtain ⟨b,sw,hm⟩:=I.ok w (List.mem_of_getElem? hw)
   split
   ·
    rename_i hl
    simp [il,sw.last] at hl
    exact ⟨b,hl,sw⟩
   ·
    rename_i hl
    have hb:b∉ends:=by simpa [il,sw.last] using hl
    obtain ⟨i1,⟨e1,j1⟩,⟨e2,j2⟩,i4⟩:=kW sw hb L q (fun _ h=>h) I hm
    have hk2:k<q.1.length:=by
     rcases Nat.lt_or_ge k q.1.length with h | h
     ·
      exact h
     ·
      rw [List.getElem?_eq_none h] at hw;simp at hw
    apply bfs_ok f (k+1) _ i1
    ·
     intro i hi w' hw'
     rw [j1,List.getElem?_append_left (by omega)] at hw'
     by_cases hik:i=k
     ·
      subst hik
      rw [hw] at hw'
      simp at hw'
      subst hw'
      refine ⟨by simpa using hl,?_⟩
      intro s hs e
      rw [sw.last] at e
      simp at e
      exact i4 s hs e.symm
     ·
      obtain ⟨d1,d2⟩:=hd i (by omega) w' hw'
      refine ⟨d1,fun s hs e=>?_⟩
      rw [j2]
      simp [d2 s hs e]
    ·
     rw [j1];simp;omega
    ·
     omega
theorem gV {L:List (P×P×N)} {a:P} {ends:List P} {n:Nat} (h:L.length+2≤n):BfsOk L a ends (cX n L a ends):=by
 apply bfs_ok
 ·
  exact ⟨by simp,by simp,by intro w hw;simp at hw;subst hw;exact ⟨a,.nil,by simp⟩,by simp,by simp⟩
 ·
  intro i hi;omega
 ·
  simp
 ·
  omega
end
end Mx
end
section
set_option linter.all false
namespace Mx
section
variable {P N:Type} [DecidableEq P] [DecidableEq N]
abbrev ba (P N:Type):=List (P×P×N)
def turned (s:P×P×N):P×P×N:=(s.2.1,s.1,s.2.2)
def bR (s:P×P×N):N:=s.2.2
def bb (L:ba P N) (names:List N):ba P N:=L.filter fun s=>decide (s.2.2∉names)
def az (L gone:ba P N):ba P N:=bb L (gone.map bR)++gone.map turned
def dH (gone:ba P N) (w:Wlk P N):ba P N:=(gone.filter fun s=>decide (turned s∉al w))++(al w).filter fun s=>decide (turned s∉gone)
def bg (n:Nat) (L:ba P N) (b e:P):Nat→ba P N→ba P N
 | 0,g=>g
 | k+1,g=>match cX n (az L g) b [e] with
  | none=>g
  | some w=>bg n L b e k (dH g w)
def drain (n:Nat) (b e:P):Nat→ba P N→Option (Wlk P N)→List (Wlk P N)→List (Wlk P N)
 | 0,_,_,ws=>ws
 | _+1,_,none,ws=>ws
 | f+1,left,some w,ws=>drain n b e f (bb left w.2) (cX n (bb left w.2) b [e]) (ws++[w])
def ax (n f:Nat) (L:ba P N) (b e:P) (many:Nat):List (Wlk P N):=
 drain n b e f (bg n L b e many []) (cX n (bg n L b e many []) b [e]) []
theorem dI (s:P×P×N):turned (turned s)=s:=rfl
def net (φ:P→Int) (L:ba P N):Int:=(L.map fun s=>φ s.1-φ s.2.1).sum
theorem gW {φ:P→Int}:net φ ([]:ba P N)=0:=rfl
theorem fB {φ:P→Int} {s:P×P×N} {L:ba P N}:net φ (s::L)=(φ s.1-φ s.2.1)+net φ L:=by simp [net]
theorem eK {φ:P→Int} {L M:ba P N}:net φ (L++M)=net φ L+net φ M:=by
 induction L with
 | nil=>simp [gW]
 | cons s L ih=>simp [fB,ih];omega
theorem kX {φ:P→Int} {L M:ba P N} (h:L.Perm M):net φ L=net φ M:=by
 induction h with
 | nil=>rfl
 | cons x _ ih=>simp [fB,ih]
 | swap x y l=>simp [fB];omega
 | trans _ _ h1 h2=>exact h1.trans h2
theorem pk {φ:P→Int} {L:ba P N}:net φ (L.map turned)=- net φ L:=by
 induction L with
 | nil=>rfl
 | cons s L ih=>simp [fB,ih,turned];omega
theorem mn {φ:P→Int} (p:P×P×N→Bool) (L:ba P N):net φ L=net φ (L.filter p)+net φ (L.filter fun s=>!p s):=by
 rw [←eK];exact (kX (List.filter_append_perm p L)).symm
theorem Sw.net {L:ba P N} {ends:List P} {a b:P} {ps:List P} {ns:List N} (h:Sw L ends a b ps ns) (φ:P→Int):Mx.net φ (al (ps,ns))=φ a-φ b:=by
 induction h with
 | nil=>simp [al,gW]
 | snoc h1 _ _ _ ih=>rw [h1.steps_snoc,eK,ih];simp [fB,gW];omega
theorem cp {α β:Type} {f:α→β}:∀ {L:List α},(L.map f).Nodup→L.Nodup
 | [],_=>by simp
 | x::L,h=>by
  simp only [List.map_cons,List.nodup_cons] at h ⊢
  exact ⟨fun hx=>h.1 (List.mem_map_of_mem hx),cp h.2⟩
theorem fj {α β:Type} {f:α→β}:∀ {L:List α},L.Nodup→(∀ x∈L,∀ y∈L,f x=f y→x=y)→(L.map f).Nodup
 | [],_,_=>by simp
 | x::L,h,hf=>by
  simp only [List.map_cons,List.nodup_cons] at h ⊢
  refine ⟨?_,fj h.2 fun y hy z hz=>hf y (by simp [hy]) z (by simp [hz])⟩
  intro hx
  obtain ⟨y,hy,e⟩:=List.mem_map.1 hx
  have:=hf y (by simp [hy]) x (by simp) e
  subst this
  exact h.1 hy
theorem mo {α β:Type} {f:α→β}:∀ {L:List α},(L.map f).Nodup→∀ {x y},x∈L→y∈L→f x=f y→x=y
 | [],_,_,_,h,_,_=>by simp at h
 | z::L,h,x,y,hx,hy,e=>by
  simp only [List.map_cons,List.nodup_cons] at h
  simp only [List.mem_cons] at hx hy
  rcases hx with hx | hx <;> rcases hy with hy | hy
  ·
   rw [hx,hy]
  ·
   subst hx;exact absurd (e▸List.mem_map_of_mem hy) h.1
  ·
   subst hy;exact absurd (e▸List.mem_map_of_mem hx) h.1
  ·
   exact mo h.2 hx hy e
theorem eA {α:Type} {p:α→Bool} {L:List α} (h:L.Nodup):(L.filter p).Nodup:=List.Pairwise.filter p h
def Uniq (L:ba P N):Prop:=∀ s∈L,∀ t∈L,s.2.2=t.2.2→t=s∨t=(s.2.1,s.1,s.2.2)
theorem fR {L:ba P N} {ns:List N} {s:P×P×N}:s∈bb L ns↔s∈L∧s.2.2∉ns:=by simp [bb]
theorem cY {L G:ba P N} {s:P×P×N}:s∈az L G↔(s∈L∧s.2.2∉G.map bR)∨∃ g∈G,turned g=s:=by
 unfold az
 rw [List.mem_append,fR]
 exact or_congr Iff.rfl List.mem_map
theorem mq {L G:ba P N} (U:Uniq L) (hG:∀ g∈G,g∈L):Uniq (az L G):=by
 intro s hs t ht e
 have back:∀ s∈az L G,∃ s'∈L,s'.2.2=s.2.2∧(s=s'∨s=turned s'):=by
  intro s hs
  rcases cY.1 hs with h | ⟨g,hg,h⟩
  ·
   exact ⟨s,h.1,rfl,.inl rfl⟩
  ·
   exact ⟨g,hG g hg,by rw [←h];rfl,.inr h.symm⟩
 obtain ⟨s',a1,a2,a3⟩:=back s hs
 obtain ⟨t',b1,b2,b3⟩:=back t ht
 have:=U s' a1 t' b1 (by rw [a2,b2,e])
 rcases s with ⟨x,y,n⟩
 rcases t with ⟨x2,y2,n2⟩
 rcases s' with ⟨u,v,m⟩
 rcases t' with ⟨u2,v2,m2⟩
 simp [turned] at *
 subst e
 rcases this with ⟨c1,c2,c3⟩ | ⟨c1,c2,c3⟩ <;> rcases a3 with ⟨d1,d2,d3⟩ | ⟨d1,d2,d3⟩ <;> rcases b3 with ⟨f1,f2,f3⟩ | ⟨f1,f2,f3⟩ <;> subst_vars <;> simp
structure Flow (L:ba P N) (b e:P) (k:Nat) (G:ba P N):Prop where
 sub:∀ g∈G,g∈L
 nd:(G.map bR).Nodup
 net:∀ φ:P→Int,Mx.net φ G=(k:Int)*(φ b-φ e)
 nb:∀ g∈G,g.2.1≠b∧g.1≠e
theorem Flow.zero {L:ba P N} {b e:P}:Flow L b e 0 []:=⟨by simp,by simp,by simp [gW],by simp⟩
theorem Flow.step {L G:ba P N} {b e:P} {k:Nat} {w:Wlk P N} (U:Uniq L) (F:Flow L b e k G) (hw:Sw (az L G) [e] b e w.1 w.2) :
  Flow L b e (k+1) (dH G w):=by
 have hA:∀ s∈al w,_:=hw.step
 have hnew:∀ s∈al w,turned s∉G→s∈L∧bR s∉G.map bR:=by
  intro s hs ht
  rcases cY.1 (hA s hs).1 with h | ⟨g,hg,h⟩
  ·
   exact h
  ·
   exfalso;apply ht;rw [←h];exact hg
 have ndG:G.Nodup:=cp F.nd
 have ndA:(al w).Nodup:=hw.stepsNodup
 refine ⟨?_,?_,?_,?_⟩
 ·
  intro g hg
  simp only [dH,List.mem_append,List.mem_filter,decide_eq_true_eq] at hg
  rcases hg with ⟨h,_⟩ | ⟨h,h2⟩
  ·
   exact F.sub g h
  ·
   exact (hnew g h h2).1
 ·
  unfold dH
  rw [List.map_append,List.nodup_append]
  refine ⟨?_,?_,?_⟩
  ·
   exact List.Pairwise.sublist (List.Sublist.map _ List.filter_sublist) F.nd
  ·
   have:((al w).map bR).Nodup:=by
    have:=hw.namesNodup (mq U F.sub)
    rw [←hw.names] at this
    exact this
   exact List.Pairwise.sublist (List.Sublist.map _ List.filter_sublist) this
  ·
   intro x hx y hy exy
   obtain ⟨s,hs,rfl⟩:=List.mem_map.1 hx
   obtain ⟨t,ht,rfl⟩:=List.mem_map.1 hy
   rw [List.mem_filter] at hs ht
   have:=(hnew t ht.1 (by simpa using ht.2)).2
   exact this (exy▸List.mem_map_of_mem hs.1)
 ·
  intro φ
  have h1:=mn (φ:=φ) (fun s=>decide (turned s∉al w)) G
  have h2:=mn (φ:=φ) (fun s=>decide (turned s∉G)) (al w)
  have hp:((al w).filter fun s=>!decide (turned s∉G)).Perm ((G.filter fun s=>!decide (turned s∉al w)).map turned):=by
   rw [List.perm_ext_iff_of_nodup (eA ndA)]
   ·
    intro s
    simp only [List.mem_filter,List.mem_map]
    constructor
    ·
     rintro ⟨h,h'⟩
     exact ⟨turned s,⟨by simpa using h',by rw [dI];simpa using h⟩,dI s⟩
    ·
     rintro ⟨t,⟨h,h'⟩,rfl⟩
     exact ⟨by simpa using h',by rw [dI];simpa using h⟩
   ·
    refine fj (eA ndG) ?_
    intro x _ y _ exy
    have:=congrArg turned exy
    simpa [dI] using this
  have h3:=kX (φ:=φ) hp
  rw [pk] at h3
  have h4:=F.net φ
  have h5:Mx.net φ (al w)=φ b-φ e:=hw.net φ
  unfold dH
  rw [eK]
  have:((k+1:Nat):Int)*(φ b-φ e)=(k:Int)*(φ b-φ e)+(φ b-φ e):=by
   rw [Int.natCast_add,Int.add_mul];simp
  rw [this]
  omega
 ·
  intro g hg
  simp only [dH,List.mem_append,List.mem_filter,decide_eq_true_eq] at hg
  rcases hg with ⟨h,_⟩ | ⟨h,h2⟩
  ·
   exact F.nb g h
  ·
   exact ⟨(hA g h).2.2.2.2.1,by simpa using (hA g h).2.2.2.2.2⟩
theorem gw {L G:ba P N} {b e:P} {k:Nat} (U:Uniq L) (F:Flow L b e k G):G.length≤L.length:=by
 have:=List.Nodup.length_le_of_subset (cp F.nd) F.sub
 exact this
theorem ou {L G:ba P N} (h:G.length≤L.length):(az L G).length≤2*L.length:=by
 unfold az bb
 have:=List.length_filter_le (fun s:P×P×N=>decide (s.2.2∉G.map bR)) L
 simp at this ⊢
 omega
theorem m9 {L:ba P N} {b e:P} {n:Nat} (U:Uniq L) (hn:2*L.length+2≤n):∀ (m k:Nat) (G:ba P N),Flow L b e k G→
  ∃ k',Flow L b e k' (bg n L b e m G)∧k'≤k+m∧(k'<k+m→∃ S,Shut (az L (bg n L b e m G)) b S∧e∉S)
 | 0,k,G,F=>⟨k,F,by omega,by intro h;omega⟩
 | m+1,k,G,F=>by
  have hb:=gV (L:=az L G) (a:=b) (ends:=[e]) (n:=n) (by have:=ou (gw U F);omega)
  unfold bg
  split
  ·
   rename_i h
   rw [h] at hb
   obtain ⟨S,s1,s2⟩:=hb
   exact ⟨k,F,by omega,fun _=>⟨S,s1,fun he=>s2 e he (by simp)⟩⟩
  ·
   rename_i w h
   rw [h] at hb
   obtain ⟨c,hc,sw⟩:=hb
   simp at hc
   subst hc
   obtain ⟨k',f,h1,h2⟩:=m9 U hn m (k+1) _ (F.step U sw)
   exact ⟨k',f,by omega,fun h=>h2 (by omega)⟩
def ind (S:List P) (x:P):Int:=if x∈S then 1 else 0
def f8 (S:List P) (s:P×P×N):Bool:=decide (s.1∈S)&&decide (s.2.1∉S)
def into (S:List P) (s:P×P×N):Bool:=decide (s.1∉S)&&decide (s.2.1∈S)
theorem iY (S:List P):∀ G:ba P N,net (ind S) G=((G.filter (f8 S)).length:Int)-((G.filter (into S)).length:Int)
 | []=>by simp [gW]
 | s::G=>by
  rw [fB,iY S G]
  unfold ind f8 into
  by_cases h1:s.1∈S <;> by_cases h2:s.2.1∈S <;> simp [h1,h2] <;> omega
theorem Flow.none {L G:ba P N} {b e:P} {k:Nat} (F:Flow L b e k G) {S:List P} (h:Shut G b S) (he:e∉S):k=0:=by
 have h1:=F.net (ind S)
 rw [iY] at h1
 have h2:(G.filter (f8 S))=[]:=by
  rw [List.filter_eq_nil_iff]
  intro s hs
  simp only [f8,Bool.and_eq_true,decide_eq_true_eq,not_and]
  intro a;simpa using h.cl s hs a
 rw [h2] at h1
 simp [ind,h.ha,he] at h1
 omega
theorem Flow.pos {L G:ba P N} {b e:P} {k:Nat} (F:Flow L b e k G) (hbe:b≠e) {w:Wlk P N} (h:Sw G [e] b e w.1 w.2):0<k:=by
 obtain ⟨s,hs,e1⟩ : ∃ s∈G,s.1=b:=by
  have:∃ s∈al w,s.1=b:=by
   have:=h.head
   have h2:=h.len
   have h3:=h.last
   rcases w with ⟨ps,ns⟩
   simp at *
   cases ps with
   | nil=>simp at this
   | cons p ps=>
    simp at this
    subst this
    cases ps with
    | nil=>simp at h3;exact absurd h3 hbe
    | cons q ps=>cases ns with
     | nil=>simp at h2
     | cons m ns=>exact ⟨q,m,by simp [al]⟩
  obtain ⟨s,hs,e1⟩:=this
  exact ⟨s,(h.step s hs).1,e1⟩
 have h1:=F.net (ind [b])
 rw [iY] at h1
 have h2:(G.filter (into [b]))=[]:=by
  rw [List.filter_eq_nil_iff]
  intro s hs
  have:=(F.nb s hs).1
  simp [into,this]
 have h3:s∈G.filter (f8 [b]):=by
  rw [List.mem_filter]
  refine ⟨hs,?_⟩
  have:=(F.nb s hs).1
  simp [f8,this,e1]
 have h4:0<(G.filter (f8 [b])).length:=List.length_pos_of_mem h3
 rw [h2] at h1
 simp [ind,Ne.symm hbe] at h1
 omega
theorem Flow.take {L G:ba P N} {b e:P} {k:Nat} (F:Flow L b e (k+1) G) {w:Wlk P N} (h:Sw G [e] b e w.1 w.2) :
  Flow L b e k (bb G w.2)∧G.Perm (al w++bb G w.2):=by
 have hmem:∀ s∈G,s.2.2∈w.2↔s∈al w:=by
  intro s hs
  constructor
  ·
   intro hn
   rw [←h.names] at hn
   obtain ⟨t,ht,e1⟩:=List.mem_map.1 hn
   have:=mo F.nd (h.step t ht).1 hs e1
   subst this
   exact ht
  ·
   intro hn
   exact (h.step s hn).2.2.2.1
 have ndG:G.Nodup:=cp F.nd
 have hp:G.Perm (al w++bb G w.2):=by
  have h1:=List.filter_append_perm (fun s:P×P×N=>decide (s.2.2∉w.2)) G
  have h2:(G.filter fun s=>!decide (s.2.2∉w.2)).Perm (al w):=by
   rw [List.perm_ext_iff_of_nodup (eA ndG) h.stepsNodup]
   intro s
   simp only [List.mem_filter]
   constructor
   ·
    rintro ⟨a,c⟩
    exact (hmem s a).1 (by simpa using c)
   ·
    intro a
    exact ⟨(h.step s a).1,by simpa using (h.step s a).2.2.2.1⟩
  exact h1.symm.trans (List.perm_append_comm.trans (List.Perm.append_right _ h2))
 refine ⟨⟨?_,?_,?_,?_⟩,hp⟩
 ·
  intro g hg;exact F.sub g (fR.1 hg).1
 ·
  exact List.Pairwise.sublist (List.Sublist.map _ List.filter_sublist) F.nd
 ·
  intro φ
  have h1:=kX (φ:=φ) hp
  rw [eK,F.net φ] at h1
  have h5:Mx.net φ (al w)=φ b-φ e:=h.net φ
  have:((k+1:Nat):Int)*(φ b-φ e)=(k:Int)*(φ b-φ e)+(φ b-φ e):=by
   rw [Int.natCast_add,Int.add_mul];simp
  omega
 ·
  intro g hg;exact F.nb g (fR.1 hg).1
structure Drained (L:ba P N) (b e:P) (G:ba P N) (k:Nat) (ws:List (Wlk P N)):Prop where
 len:ws.length=k
 ok:∀ w∈ws,Sw L [e] b e w.1 w.2
 perm:∃ R,G.Perm (ws.flatMap al++R)∧Flow L b e 0 R
theorem ox {L G0:ba P N} {b e:P} {n:Nat} (hbe:b≠e):∀ (f k:Nat) (G:ba P N) (ws:List (Wlk P N)),Flow L b e k G→G.length+2≤n→k<f→
  (∀ w∈ws,Sw L [e] b e w.1 w.2)→G0.Perm (ws.flatMap al++G)→Drained L b e G0 (ws.length+k) (drain n b e f G (cX n G b [e]) ws)
 | 0,k,G,ws,_,_,h,_,_=>by omega
 | f+1,k,G,ws,F,hn,hk,hw,hp=>by
  have hb:=gV (L:=G) (a:=b) (ends:=[e]) (n:=n) hn
  cases hq:cX n G b [e] with
  | none=>
   rw [hq] at hb
   obtain ⟨S,s1,s2⟩:=hb
   have:=F.none s1 (fun he=>s2 e he (by simp))
   subst this
   exact ⟨by simp [drain],by simpa [drain] using hw,⟨G,by simpa [drain] using hp,F⟩⟩
  | some w=>
   rw [hq] at hb
   obtain ⟨c,hc,sw⟩:=hb
   simp at hc
   subst hc
   have:=F.pos hbe sw
   cases k with
   | zero=>omega
   | succ k=>
    obtain ⟨F',hp'⟩:=F.take sw
    have hl:(bb G w.2).length≤G.length:=List.length_filter_le _ _
    have:=ox (L:=L) (G0:=G0) (n:=n) hbe f k (bb G w.2) (ws++[w]) F' (by omega) (by omega) (by
     intro w' hw'
     simp at hw'
     rcases hw' with hw' | hw'
     ·
      exact hw w' hw'
     ·
      subst hw';exact sw.mono F.sub) (by
     refine hp.trans ?_
     simp only [List.flatMap_append,List.flatMap_cons,List.flatMap_nil,List.append_nil,List.append_assoc]
     exact List.Perm.append_left _ hp')
    have e1:(ws++[w]).length+k=ws.length+(k+1):=by simp;omega
    rw [e1] at this
    simpa [drain] using this
structure gX (L:ba P N) (b e:P) (many:Nat) (ws:List (Wlk P N)):Prop where
 ok:∀ w∈ws,Sw L [e] b e w.1 w.2
 nd:(ws.flatMap (·.2)).Nodup
 le:ws.length≤many
 side:ws.length<many→∀ R:List P,Shut (az L (ws.flatMap al)) b R→(∀ S,Shut (az L (ws.flatMap al)) b S→∀ p∈R,p∈S)→
  e∉R∧(∀ s∈L,s.1∈R→s.2.1∉R→s∈ws.flatMap al)∧((ws.flatMap al).filter (f8 R)).length=ws.length
theorem im {L:ba P N} {ends:List P} {a b:P}:∀ {ws:List (Wlk P N)},(∀ w∈ws,Sw L ends a b w.1 w.2)→(ws.flatMap al).map bR=ws.flatMap (·.2)
 | [],_=>rfl
 | w::ws,h=>by
  have h1:(al w).map bR=w.2:=(h w (by simp)).names
  have h2:=im (ws:=ws) fun w' hw'=>h w' (by simp [hw'])
  simp only [List.flatMap_cons,List.map_append]
  rw [h1,h2]
theorem oy {L:ba P N} {ends:List P} {a b:P} (φ:P→Int):∀ {ws:List (Wlk P N)},(∀ w∈ws,Sw L ends a b w.1 w.2)→net φ (ws.flatMap al)=(ws.length:Int)*(φ a-φ b)
 | [],_=>by simp [gW]
 | w::ws,h=>by
  have h1:net φ (al w)=_:=(h w (by simp)).net φ
  have h2:=oy φ (ws:=ws) fun w' hw'=>h w' (by simp [hw'])
  simp only [List.flatMap_cons,eK,h1,h2,List.length_cons]
  rw [Int.natCast_add,Int.add_mul]
  simp
  omega
theorem apart_ok {L:ba P N} {b e:P} {n f many:Nat} (U:Uniq L) (hbe:b≠e) (hn:2*L.length+2≤n) (hf:many<f) :
  gX L b e many (ax n f L b e many):=by
 obtain ⟨k,F,k1,k2⟩:=m9 (n:=n) U hn many 0 [] (Flow.zero (L:=L) (b:=b) (e:=e))
 have d:Drained L b e (bg n L b e many []) k (ax n f L b e many):=by
  have:=ox (G0:=bg n L b e many []) (n:=n) hbe f k (bg n L b e many []) [] F (by have:=gw U F;omega) (by omega) (by simp) (by simp)
  simpa [ax] using this
 obtain ⟨R0,hp,FR⟩:=d.perm
 have hnd:(((ax n f L b e many).flatMap al++R0).map bR).Nodup:=(List.Perm.nodup_iff (hp.map bR)).1 F.nd
 refine ⟨d.ok,?_,by rw [d.len];omega,?_⟩
 ·
  rw [List.map_append,List.nodup_append] at hnd
  rw [←im d.ok]
  exact hnd.1
 ·
  intro hlt R hR hmin
  rw [d.len] at hlt
  obtain ⟨S,s1,s2⟩:=k2 (by omega)
  have hin:∀ g∈bg n L b e many [],g.1∉S→g.2.1∈S→False:=by
   intro g hg h1 h2
   have:=s1.cl (turned g) (cY.2 (.inr ⟨g,hg,rfl⟩)) h2
   exact h1 this
  have hout:∀ s∈L,s.1∈S→s.2.1∉S→s∈bg n L b e many []:=by
   intro s hs h1 h2
   by_cases hn:s.2.2∈(bg n L b e many []).map bR
   ·
    obtain ⟨g,hg,e1⟩:=List.mem_map.1 hn
    rcases U g (F.sub g hg) s hs e1 with e2 | e2
    ·
     rw [e2];exact hg
    ·
     exfalso
     rw [e2] at h1 h2
     exact hin g hg h2 h1
   ·
    exfalso
    exact h2 (s1.cl s (cY.2 (.inl ⟨hs,hn⟩)) h1)
  have hR0:∀ g∈R0,f8 S g=false:=by
   have h1:=FR.net (ind S)
   rw [iY] at h1
   have h2:R0.filter (into S)=[]:=by
    rw [List.filter_eq_nil_iff]
    intro s hs
    simp only [into,Bool.and_eq_true,decide_eq_true_eq,not_and]
    intro a c
    exact hin s (hp.mem_iff.2 (by simp [hs])) a c
   rw [h2] at h1
   simp at h1
   intro g hg
   have:=h1 g.1 g.2.1 g.2.2 hg
   simpa using this
  have hS:Shut (az L ((ax n f L b e many).flatMap al)) b S:=by
   refine ⟨s1.ha,?_⟩
   intro s hs h1
   apply Classical.byContradiction
   intro h2
   rcases cY.1 hs with ⟨h3,h4⟩ | ⟨g,hg,h3⟩
   ·
    have h5:=hp.mem_iff.1 (hout s h3 h1 h2)
    rw [List.mem_append] at h5
    rcases h5 with h5 | h5
    ·
     exact h4 (List.mem_map_of_mem h5)
    ·
     have:=hR0 s h5
     simp [f8,h1,h2] at this
   ·
    subst h3
    exact hin g (hp.mem_iff.2 (by rw [List.mem_append];exact .inl hg)) h2 h1
  have heR:e∉R:=fun h=>s2 (hmin S hS e h)
  refine ⟨heR,?_,?_⟩
  ·
   intro s hs h1 h2
   by_cases hn:s.2.2∈((ax n f L b e many).flatMap al).map bR
   ·
    obtain ⟨g,hg,e1⟩:=List.mem_map.1 hn
    have hgL:g∈L:=F.sub g (hp.mem_iff.2 (by rw [List.mem_append];exact .inl hg))
    rcases U g hgL s hs e1 with e2 | e2
    ·
     rw [e2];exact hg
    ·
     exfalso
     apply h2
     exact hR.cl s (cY.2 (.inr ⟨g,hg,e2.symm⟩)) h1
   ·
    exfalso
    exact h2 (hR.cl s (cY.2 (.inl ⟨hs,hn⟩)) h1)
  ·
   have h1:=oy (ind R) d.ok
   rw [iY] at h1
   have h2:((ax n f L b e many).flatMap al).filter (into R)=[]:=by
    rw [List.filter_eq_nil_iff]
    intro s hs
    simp only [into,Bool.and_eq_true,decide_eq_true_eq,not_and]
    intro a c
    exact a (hR.cl (turned s) (cY.2 (.inr ⟨s,hs,rfl⟩)) c)
   rw [h2] at h1
   simp [ind,hR.ha,heR] at h1
   omega
end
end Mx
end
section
set_option linter.all false
namespace Mx
section
variable {P N:Type} [DecidableEq P] [DecidableEq N]
theorem ng {p q:P} {ps:List P} {n:N} {ns:List N} (h:ps.head?=some q):al (p::ps,n::ns)=(p,q,n)::al (ps,ns):=by
 cases ps with
 | nil=>simp at h
 | cons x ps=>simp at h;subst h;rfl
theorem iZ {L:ba P N} {ns:List N}:(bb L ns).length≤L.length:=List.length_filter_le _ _
end
end Mx
end
section
set_option linter.all false
namespace Mx
section
variable {P:Type} [DecidableEq P]
def dR (p:P) (f:List P) (s:P×P):List P:=if s.1=p∧s.2∉f then f++[s.2] else f
def gA (L:List (P×P)) (p:P) (f:List P):List P:=L.foldl (dR p) f
def jP (L:List (P×P)):Nat→Nat→List P→List P
 | 0,_,f=>f
 | n+1,k,f=>match f[k]? with
  | none=>f
  | some p=>jP L n (k+1) (gA L p f)
def reach (n:Nat) (L:List (P×P)) (a:P):List P:=jP L n 0 [a]
structure RInv (L:List (P×P)) (a:P) (f:List P):Prop where
 nd:f.Nodup
 ha:a∈f
 sub:∀ p∈f,p=a∨∃ s∈L,s.2=p
 min:∀ Q:P→Prop,Q a→(∀ s∈L,Q s.1→Q s.2)→∀ p∈f,Q p
theorem jv {L0:List (P×P)} {a p:P}:∀ (L:List (P×P)) (f:List P),(∀ s∈L,s∈L0)→RInv L0 a f→p∈f→
  RInv L0 a (gA L p f)∧(∃ e,gA L p f=f++e)∧∀ s∈L,s.1=p→s.2∈gA L p f
 | [],f,_,I,_=>⟨I,⟨[],by simp [gA]⟩,by simp⟩
 | s::L,f,hL,I,hp=>by
  have e:gA (s::L) p f=gA L p (dR p f s):=rfl
  have h1:RInv L0 a (dR p f s)∧(∃ e,dR p f s=f++e)∧(s.1=p→s.2∈dR p f s):=by
   unfold dR
   split
   ·
    rename_i h
    refine ⟨⟨?_,by simp [I.ha],?_,?_⟩,⟨_,rfl⟩,by simp⟩
    ·
     rw [List.nodup_append]
     refine ⟨I.nd,by simp,?_⟩
     intro x hx y hy exy
     simp at hy
     subst hy;subst exy
     exact h.2 hx
    ·
     intro q hq
     simp at hq
     rcases hq with hq | hq
     ·
      exact I.sub q hq
     ·
      exact .inr ⟨s,hL s (by simp),hq.symm⟩
    ·
     intro Q q1 q2 q hq
     simp at hq
     rcases hq with hq | hq
     ·
      exact I.min Q q1 q2 q hq
     ·
      rw [hq];exact q2 s (hL s (by simp)) (by rw [h.1];exact I.min Q q1 q2 p hp)
   ·
    rename_i h
    refine ⟨I,⟨[],by simp⟩,?_⟩
    intro e1
    simp [e1] at h
    exact h
  obtain ⟨i1,⟨e1,j1⟩,i3⟩:=h1
  obtain ⟨k1,⟨f1,l1⟩,k3⟩:=jv (p:=p) L (dR p f s) (fun t ht=>hL t (by simp [ht])) i1 (by rw [j1];simp [hp])
  rw [e]
  refine ⟨k1,⟨e1++f1,by rw [l1,j1];simp⟩,?_⟩
  intro t ht et
  rw [List.mem_cons] at ht
  rcases ht with rfl | ht
  ·
   rw [l1];exact List.mem_append.2 (.inl (i3 et))
  ·
   exact k3 t ht et
structure ReachOk (L:List (P×P)) (a:P) (f:List P):Prop extends RInv L a f where
 cl:∀ s∈L,s.1∈f→s.2∈f
theorem oz {L:List (P×P)} {a:P}:∀ (n k:Nat) (f:List P),RInv L a f→(∀ i,i<k→∀ p,f[i]?=some p→∀ s∈L,s.1=p→s.2∈f)→k≤f.length→L.length+2≤n+k→
  ReachOk L a (jP L n k f)
 | 0,k,f,I,_,hk,hn=>by
  have h2:=List.Nodup.length_le_of_subset (l₂:=a::L.map (·.2)) I.nd (by
   intro p hp
   rcases I.sub p hp with e | ⟨s,hs,e⟩
   ·
    simp [e]
   ·
    simp only [List.mem_cons,List.mem_map];exact .inr ⟨s,hs,e⟩)
  simp at h2
  omega
 | n+1,k,f,I,hd,hk,hn=>by
  unfold jP
  split
  ·
   rename_i h
   rw [List.getElem?_eq_none_iff] at h
   refine { I with cl:=?_ }
   intro s hs hp
   obtain ⟨i,hi,e⟩:=List.mem_iff_getElem.1 hp
   exact hd i (by omega) s.1 (by simp [e,hi]) s hs rfl
  ·
   rename_i p h
   have hk2:k<f.length:=by
    rcases Nat.lt_or_ge k f.length with h' | h'
    ·
     exact h'
    ·
     rw [List.getElem?_eq_none h'] at h;simp at h
   obtain ⟨i1,⟨e1,j1⟩,i3⟩:=jv (p:=p) L f (fun _ h=>h) I (List.mem_of_getElem? h)
   apply oz n (k+1) _ i1
   ·
    intro i hi q hq
    rw [j1,List.getElem?_append_left (by omega)] at hq
    by_cases hik:i=k
    ·
     subst hik
     rw [h] at hq
     simp at hq
     subst hq
     exact i3
    ·
     intro s hs e2
     rw [j1]
     exact List.mem_append.2 (.inl (hd i (by omega) q hq s hs e2))
   ·
    rw [j1];simp;omega
   ·
    omega
theorem oA {L:List (P×P)} {a:P} {n:Nat} (h:L.length+2≤n):ReachOk L a (reach n L a):=by
 apply oz
 ·
  exact ⟨by simp,by simp,by simp,by intro Q h _ p hp;simp at hp;rw [hp];exact h⟩
 ·
  intro i hi;omega
 ·
  simp
 ·
  omega
end
end Mx
end
section
set_option linter.all false
set_option Elab.async false
namespace Ew
open PySem PySem.Spec L2
structure Enc (α:Type) [DecidableEq α] where
 e:α→D
 k:Nat
 ok:∀ a,(e a).plain=true∧(e a).py.canLay0=true∧(e a).py.depth≤k
 eq:∀ a b,eqP (e a) (e b)=decide (a=b)
def Enc.int:Enc Int:=⟨.int,1,fun i=>by
 obtain ⟨a,b,c⟩:=bL (eU i)
 exact ⟨a,b,by unfold D.py PyData.depth;omega⟩,ky⟩
section
variable {α β:Type} [DecidableEq α] [DecidableEq β]
theorem eqP_tup3 (a b c a' b' c':D):eqP (.tup [a,b,c]) (.tup [a',b',c'])=(eqP a a'&&(eqP b b'&&eqP c c')):=by
 simp only [eqP,D.py,pys,PyData.eqv,PyData.eqvAll,Bool.and_true]
theorem eqP_tup2 (a b a' b':D):eqP (.tup [a,b]) (.tup [a',b'])=(eqP a a'&&eqP b b'):=by
 simp only [eqP,D.py,pys,PyData.eqv,PyData.eqvAll,Bool.and_true]
theorem oB {k:Nat} {ds:List D} (h:∀ d∈ds,d.py.depth≤k):PyData.depthAll (pys ds)≤k:=gv fun d hd=>by
 rw [fP] at hd
 obtain ⟨e,he,rfl⟩:=List.mem_map.mp hd
 exact h e he
theorem ok_tup {k:Nat} {ds:List D} (h:∀ d∈ds,d.plain=true∧d.py.canLay0=true∧d.py.depth≤k):(D.tup ds).plain=true∧(D.tup ds).py.canLay0=true∧(D.tup ds).py.depth≤k+1:=by
 refine ⟨?_,?_,?_⟩
 ·
  unfold D.plain;rw [ij];exact List.all_eq_true.mpr fun d hd=>(h d hd).1
 ·
  unfold D.py PyData.canLay0;rw [fg,fP];exact List.all_eq_true.mpr fun d hd=>by
   obtain ⟨e,he,rfl⟩:=List.mem_map.mp hd
   exact (h e he).2.1
 ·
  unfold D.py PyData.depth
  have:=oB (k:=k) fun d hd=>(h d hd).2.2
  omega
def Enc.tri (A:Enc α) (B:Enc β):Enc (α×α×β):=⟨fun s=>.tup [A.e s.1,A.e s.2.1,B.e s.2.2],max A.k B.k+1,fun s=>ok_tup fun d hd=>by
 simp at hd
 rcases hd with rfl | rfl | rfl
 ·
  have:=A.ok s.1;exact ⟨this.1,this.2.1,by omega⟩
 ·
  have:=A.ok s.2.1;exact ⟨this.1,this.2.1,by omega⟩
 ·
  have:=B.ok s.2.2;exact ⟨this.1,this.2.1,by omega⟩,fun a b=>by
 rw [eqP_tup3,A.eq,A.eq,B.eq]
 rcases a with ⟨a1,a2,a3⟩
 rcases b with ⟨b1,b2,b3⟩
 simp⟩
def Enc.par (A:Enc α) (B:Enc β):Enc (α×β):=⟨fun s=>.tup [A.e s.1,B.e s.2],max A.k B.k+1,fun s=>ok_tup fun d hd=>by
 simp at hd
 rcases hd with rfl | rfl
 ·
  have:=A.ok s.1;exact ⟨this.1,this.2.1,by omega⟩
 ·
  have:=B.ok s.2;exact ⟨this.1,this.2.1,by omega⟩,fun a b=>by
 rw [eqP_tup2,A.eq,B.eq]
 rcases a with ⟨a1,a2⟩
 rcases b with ⟨b1,b2⟩
 simp⟩
variable (A:Enc α)
theorem Enc.okD (h:A.k≤16) (a:α):Ew.okD (A.e a)=true:=by
 obtain ⟨p,q,r⟩:=A.ok a
 unfold Ew.okD
 rw [p,q]
 simp
 omega
theorem Enc.okL (h:A.k≤15) (as:List α):Ew.okD (.lst (as.map A.e))=true:=og fun d hd=>by
 obtain ⟨a,_,rfl⟩:=List.mem_map.mp hd
 obtain ⟨p,q,r⟩:=A.ok a
 exact ⟨p,q,by omega⟩
theorem Enc.oEq (h:A.k≤15) (a b:α):Ew.oEq (A.e a) (A.e b)=some (.sh (.bl (decide (a=b)))):=by
 unfold Ew.oEq
 rw [if_pos ⟨A.okD (by omega) a,A.okD (by omega) b⟩,A.eq]
theorem Enc.oNe (h:A.k≤15) (a b:α):Ew.oNe (A.e a) (A.e b)=some (.sh (.bl (!decide (a=b)))):=by
 unfold Ew.oNe
 rw [if_pos ⟨A.okD (by omega) a,A.okD (by omega) b⟩,A.eq]
theorem Enc.any (a:α) (as:List α):((as.map A.e).any fun y=>eqP y (A.e a))=decide (a∈as):=by
 induction as with
 | nil=>rfl
 | cons b as ih=>
  simp only [List.map_cons,List.any_cons,ih,A.eq]
  by_cases h:b=a
  ·
   subst h;simp
  ·
   have h2:¬a=b:=fun e=>h e.symm
   simp [h,h2]
theorem Enc.oIn (h:A.k≤15) (a:α) (as:List α):Ew.oIn (A.e a) (.lst (as.map A.e))=some (.sh (.bl (decide (a∈as)))):=by
 show (if Ew.okD (A.e a)=true∧Ew.okD (D.lst (List.map A.e as))=true then some (R.sh (D.bl ((as.map A.e).any fun y=>eqP y (A.e a)))) else none)=_
 rw [if_pos ⟨A.okD (by omega) a,A.okL h as⟩,A.any]
theorem Enc.oNotIn (h:A.k≤15) (a:α) (as:List α):Ew.oNotIn (A.e a) (.lst (as.map A.e))=some (.sh (.bl (!decide (a∈as)))):=by
 show (if Ew.okD (A.e a)=true∧Ew.okD (D.lst (List.map A.e as))=true then some (R.sh (D.bl (!(as.map A.e).any fun y=>eqP y (A.e a)))) else none)=_
 rw [if_pos ⟨A.okD (by omega) a,A.okL h as⟩,A.any]
theorem Enc.oEqL (h:A.k≤15) (as bs:List α):Ew.oEq (.lst (as.map A.e)) (.lst (bs.map A.e))=some (.sh (.bl (decide (as=bs)))):=by
 unfold Ew.oEq
 rw [if_pos ⟨A.okL h as,A.okL h bs⟩]
 congr 3
 have key:∀ as bs:List α,PyData.eqvAll (pys (as.map A.e)) (pys (bs.map A.e))=decide (as=bs):=by
  intro as
  induction as with
  | nil=>intro bs;cases bs <;> simp [pys,PyData.eqvAll]
  | cons a as ih=>
   intro bs
   cases bs with
   | nil=>simp [pys,PyData.eqvAll]
   | cons b bs=>
    simp only [List.map_cons,pys,PyData.eqvAll,ih]
    have:=A.eq a b
    unfold eqP at this
    rw [this]
    simp
 unfold eqP D.py PyData.eqv
 exact key as bs
end
theorem kC {α:Type} (xs:List α):atI xs (-1)=xs.getLast?:=by
 unfold atI ixN
 cases xs with
 | nil=>simp
 | cons x xs=>
  have h1:¬((0:Int)≤-1):=by omega
  have h2:-((x::xs).length:Int)≤-1:=by simp;omega
  rw [if_neg h1,if_pos h2]
  have e:((-1:Int)+((x::xs).length:Nat)).toNat=(x::xs).length-1:=by simp;omega
  show (x::xs)[_]?=_
  rw [e,List.getLast?_eq_getElem?]
theorem io {α:Type} (xs:List α) (i:Nat):atI xs (i:Int)=xs[i]?:=by
 unfold atI ixN
 rw [if_pos (by omega)]
 by_cases h:i<xs.length
 ·
  rw [if_pos (by omega)];rfl
 ·
  rw [if_neg (by omega),List.getElem?_eq_none (by omega)];rfl
theorem di {α:Type} (xs:List α):atI xs 0=xs[0]?:=io xs 0
theorem cZ {α:Type} (xs:List α):atI xs 1=xs[1]?:=io xs 1
theorem atI_2 {α:Type} (xs:List α):atI xs 2=xs[2]?:=io xs 2
theorem getLast?_map' {α β:Type} (f:α→β) (xs:List α):(xs.map f).getLast?=xs.getLast?.map f:=by
 rw [List.getLast?_eq_getElem?,List.getLast?_eq_getElem?,List.getElem?_map,List.length_map]
end Ew
end
section
set_option Elab.async false
set_option linter.all false
set_option maxRecDepth 100000
set_option maxHeartbeats 4000000
namespace Pg
open PySem PySem.Spec L2 Ew
def top (i:Nat):Stmt:=PySem.Challenge.pw_earworks_k06_whole_ties_apart.main.body.getD i (.Pass ⟨0,0,0,0⟩)
structure CA where
 Answer:Addr
 Bar:Addr
 Part:Addr
 Wall:Addr
 Ways:Addr
 Web:Addr
def cN (c:CA):D→Option Bool:=isT [(c.Ways,true),(c.Part,true),(c.Web,false)]
def gB (c:CA):D→Option Bool:=isT [(c.Ways,false),(c.Part,false),(c.Web,false)]
def dJ (c:CA):D→Option Bool:=isT [(c.Ways,false),(c.Part,true),(c.Web,false)]
def eV (c:CA):D→Option Bool:=isT [(c.Ways,false),(c.Part,false),(c.Web,false)]
def eW (c:CA):D→Option Bool:=isT [(c.Ways,true),(c.Part,false),(c.Web,false)]
def nh (c:CA):D→Option Bool:=isT [(c.Ways,false),(c.Part,false),(c.Web,true)]
structure Txt (K:PySem.W.Frag) (mg:Str→Option Value) (c:CA) where
 b1_:Cd K mg c.Answer "Answer"
 d1_:Cd K mg c.Bar "Bar"
 q_:Cd K mg c.Part "Part"
 f1_:Cd K mg c.Wall "Wall"
 o_:Cd K mg c.Ways "Ways"
 f_:Cd K mg c.Web "Web"
 r_:NoAttr K c.Part "points"
 p_:NoAttr K c.Ways "ways"
 l_:NoAttr K c.Web "pairs"
 g_:NoAttr K c.Web "points"
 m_:mg "all" = none
 a_:mg "bool" = none
 n_:mg "enumerate" = none
 c_:mg "int" = none
 b_:mg "isinstance" = none
 d_:mg "len" = none
 h_:mg "list" = none
 j_:mg "max" = none
 k_:mg "min" = none
 i_:mg "range" = none
 e_:mg "set" = none
 y_:mg "sorted" = none
 t_:mg "tuple" = none
 s_:mg "zip" = none
 u_:∃ t,mg "MOST_POINTS" = some (.int 8 t)
 v_:∃ t,mg "MOST_TIES" = some (.int 14 t)
 x_:∃ t,mg "MOST_WAYS_BY_TIES" = some (.int 14 t)
 h1_:∀ fs,TyD K (.obj c.Ways fs) (.ref c.Ways)
 i1_:∀ fs,TyD K (.obj c.Part fs) (.ref c.Part)
 j1_:∀ fs,TyD K (.obj c.Web fs) (.ref c.Web)
 k1_:PySem.W.kitOne K (.ref c.Ways) (.ref c.Answer)=some true
 l1_:PySem.W.kitOne K (.ref c.Part) (.ref c.Answer)=some true
 m1_:PySem.W.kitOne K (.ref c.Web) (.ref c.Answer)=some false
 n1_:PySem.W.kitOne K (.ref c.Ways) (.ref c.Bar)=some false
 o1_:PySem.W.kitOne K (.ref c.Part) (.ref c.Bar)=some false
 p1_:PySem.W.kitOne K (.ref c.Web) (.ref c.Bar)=some false
 q1_:PySem.W.kitOne K (.ref c.Ways) (.ref c.Part)=some false
 r1_:PySem.W.kitOne K (.ref c.Web) (.ref c.Part)=some false
 s1_:PySem.W.kitOne K (.ref c.Ways) (.ref c.Wall)=some false
 t1_:PySem.W.kitOne K (.ref c.Part) (.ref c.Wall)=some false
 u1_:PySem.W.kitOne K (.ref c.Web) (.ref c.Wall)=some false
 v1_:PySem.W.kitOne K (.ref c.Part) (.ref c.Ways)=some false
 w1_:PySem.W.kitOne K (.ref c.Web) (.ref c.Ways)=some false
 x1_:PySem.W.kitOne K (.ref c.Ways) (.ref c.Web)=some false
 y1_:PySem.W.kitOne K (.ref c.Part) (.ref c.Web)=some false
 ne:c.Ways≠c.Part∧c.Ways≠c.Web∧c.Part≠c.Web
 a2_:Fd K mg "is_number" (top 1) ["value"]
 b2_:Fd K mg "all_differ" (top 2) ["numbers"]
 c2_:Fd K mg "has_point" (top 3) ["web", "point"]
 d2_:Fd K mg "are_two_points" (top 4) ["web", "one", "other"]
 e2_:Fd K mg "all_points" (top 5) ["web"]
 f2_:Fd K mg "is_point_set" (top 6) ["web", "points"]
 g2_:Fd K mg "tie_between" (top 7) ["one", "other"]
 h2_:Md K c.Web "ties" "Web.ties" (inClass (top 43) 1) ["self"]
 i2_:Fd K mg "points_left_to" (top 9) ["web", "points"]
 j2_:Fd K mg "reached" (top 11) ["begin", "steps"]
 k2_:Fd K mg "is_walk" (top 12) ["web", "walk"]
 l2_:Fd K mg "is_way" (top 13) ["web", "walk"]
 m2_:Fd K mg "copied_walks" (top 15) ["walks"]
 n2_:Fd K mg "places_of" (top 16) ["walks"]
 o2_:Fd K mg "are_ways" (top 17) ["web", "ways", "one", "other", "many"]
 p2_:Ni K c.Ways "Ways.__init__" (inClass (top 20) 0) ["self", "ways"]
 q2_:Md K c.Ways "ties_apart" "Ways.ties_apart" (inClass (top 20) 2) ["self", "web", "one", "other", "many"]
 r2_:Ni K c.Part "Part.__init__" (inClass (top 22) 0) ["self", "points"]
 s2_:Md K c.Part "shows" "Part.shows" (inClass (top 22) 1) ["self", "web", "one", "other", "many"]
 t2_:Fd K mg "steps_of" (top 29) ["web"]
 u2_:Fd K mg "steps_but" (top 30) ["steps", "names"]
 v2_:Fd K mg "shortest_walk" (top 31) ["steps", "begin", "ends"]
 w2_:Fd K mg "turned_back" (top 32) ["step"]
 x2_:Fd K mg "steps_in" (top 33) ["walk"]
 y2_:Fd K mg "free_steps" (top 34) ["steps", "gone"]
 z2_:Fd K mg "gone_too" (top 35) ["gone", "walk"]
 a3_:Fd K mg "most_gone" (top 36) ["steps", "begin", "end", "many"]
 b3_:Fd K mg "walks_apart" (top 37) ["steps", "begin", "end", "many"]
 c3_:Fd K mg "side_of" (top 38) ["steps", "walks", "begin"]
 d3_:Fd K mg "is_tie" (top 42) ["value", "points"]
 e3_:Ni K c.Web "Web.__init__" (inClass (top 43) 0) ["self", "points", "ties"]
 f3_:Fd K mg "are_points_of" (top 46) ["web", "one", "other"]
 g3_:Fd K mg "refuse_points" (top 47) ["web", "one", "other"]
 h3_:Fd K mg "refuse_count" (top 48) ["many", "most"]
 i3_:Fd K mg "apart" (top 49) ["web", "one", "other", "many"]
 j3_:Fd K mg "_law_cell_at" (top 51) ["_law_script", "_law_k"]
 k3_:Fd K mg "_law_draw" (top 52) ["_law_cell", "_law_k", "_law_many"]
 l3_:Fd K mg "_law_told" (top 53) ["_law_cell", "_law_least"]
 m3_:Fd K mg "_law_leaving" (top 54) ["_law_ties", "_law_some"]
 n3_:Fd K mg "_law_rising" (top 55) ["_law_some", "_law_points"]
 o3_:Fd K mg "_law_is_walk" (top 56) ["_law_told_here", "_law_walk"]
 p3_:Fd K mg "_law_is_way" (top 57) ["_law_told_here", "_law_walk"]
 q3_:Fd K mg "_law_apart" (top 59) ["_law_told_here", "_law_one", "_law_other", "_law_many", "_law_found"]
 law:Fl' K mg (top 60)
theorem Txt.go {K:PySem.W.Frag} {mg:Str→Option Value} {aAnswer aBar aPart aWall aWays aWeb:Addr} (T:Txt K mg ⟨aAnswer,aBar,aPart,aWall,aWays,aWeb⟩):∃ c,Nonempty (Txt K mg c):=⟨_,⟨T⟩⟩
noncomputable section
variable {P:Program} {w:World} {K:PySem.W.Frag} {mg:Str→Option Value} {base:Heap} {c:CA} (T:Txt K mg c)
theorem K_Answer (T:Txt K mg c):Ka K (cN c) c.Answer:=bH T.h1_ T.k1_ (bH T.i1_ T.l1_ (bH T.j1_ T.m1_ jt))
theorem K_Bar (T:Txt K mg c):Ka K (gB c) c.Bar:=bH T.h1_ T.n1_ (bH T.i1_ T.o1_ (bH T.j1_ T.p1_ jt))
theorem K_Part (T:Txt K mg c):Ka K (dJ c) c.Part:=bH T.h1_ T.q1_ (bH T.i1_ kU (bH T.j1_ T.r1_ jt))
theorem K_Wall (T:Txt K mg c):Ka K (eV c) c.Wall:=bH T.h1_ T.s1_ (bH T.i1_ T.t1_ (bH T.j1_ T.u1_ jt))
theorem K_Ways (T:Txt K mg c):Ka K (eW c) c.Ways:=bH T.h1_ kU (bH T.i1_ T.v1_ (bH T.j1_ T.w1_ jt))
theorem K_Web (T:Txt K mg c):Ka K (nh c) c.Web:=bH T.h1_ T.x1_ (bH T.i1_ T.y1_ (bH T.j1_ kU jt))
def jQ (c:CA):FS:=(aL ((e7 (av dA (ab 0)) (dnot (av is_bool (ab 0))))))
def bK (c:CA):List D→Option D:=run 1 (jQ c)
theorem cq:Ok P w mg base 1 T.a2_.toFb (spD 1 (bK c)):=fD [] fun _ _ _ _ _ _ hr nd=>
 (ak (aB ((dr (ii_int dv T.c_ T.b_) (gp (de_not (m6 dv T.a_ T.b_)))))))
def i7 (c:CA):FS:=(aL (ad oEq (cV (ab 0)) (aA bJ (aa (ab 0) ah))))
def c6 (c:CA):List D→Option D:=run 1 (i7 c)
theorem hJ:Ok P w mg base 1 T.b2_.toFb (spD 1 (c6 c)):=fD [] fun _ _ _ _ _ _ hr nd=>
 (ak (aB (c_eq (gP rfl dv rfl T.d_ rfl T.e_) (cD T.d_ dv) hr)))
def jR (c:CA):FS:=(aL (cS oLe oLt (ac (.int 0)) (ab 1) (cT (isC c.Web) "points" (ab 0))))
def bU (c:CA):List D→Option D:=run 2 (jR c)
theorem fT:Ok P w mg base 1 T.c2_.toFb (spD 2 (bU c)):=fD [] fun _ _ _ _ _ _ hr nd=>
 (ak (aB (nS ig dz af dv (df dv T.f_.cls T.g_))))
def fC (c:CA):FS:=(aL ((e7 (ao 2 (bU c) (aa (ab 0) (aa (ab 1) ah))) (e7 (ao 2 (bU c) (aa (ab 0) (aa (ab 2) ah))) (ad oNe (ab 1) (ab 2))))))
def bB (c:CA):List D→Option D:=run 3 (fC c)
theorem c7:Ok P w mg base 2 T.d2_.toFb (spD 3 (bB c)):=fD [] fun _ _ _ _ _ _ hr nd=>
 (ak (aB ((dr (du (fT T) hr (ae dv (d1 dv))) (dr (du (fT T) hr (ae dv (d1 dv))) (gp (c_ne dv dv hr)))))))
def i8 (c:CA):FS:=(aL (iN (aa (cT (isC c.Web) "points" (ab 0)) ah)))
def c8 (c:CA):List D→Option D:=run 1 (i8 c)
theorem lE:Ok P w mg base 1 T.e2_.toFb (spD 1 (c8 c)):=fD [] fun _ _ _ _ _ _ hr nd=>
 (ak (aB (n5 rfl (d1 (df dv T.f_.cls T.g_)) rfl T.h_ rfl T.i_)))
def kY (c:CA):FS:=(aL (ad oEq (ab 1) (bD (aO (ao 1 (c8 c) (aa (ab 0) ah))) (au 0) (aj (ad oIn (ab 0) (ab 1))) (ab 0) 1 [1])))
def eL (c:CA):List D→Option D:=run 2 (kY c)
theorem j8:Ok P w mg base 2 T.f2_.toFb (spD 2 (eL c)):=fD [] fun _ _ _ _ _ _ hr nd=>
 (ak (aB (c_eq dv (dc ["point", "points"] (bf (du (lE T) hr (d1 dv))) (fun nd _ _ _ _ _=>⟨(gn nd),(fx (t_in dv dv hr)),dv⟩)) hr)))
def hU (c:CA):FS:=(aL (b6 (aa (aY dh (aa (ab 0) (aa (ab 1) ah))) (aa (aY eG (aa (ab 0) (aa (ab 1) ah))) ah))))
def b9 (c:CA):List D→Option D:=run 2 (hU c)
theorem kZ:Ok P w mg base 1 T.g2_.toFb (spD 2 (b9 c)):=fD [] fun _ _ _ _ _ _ hr nd=>
 (ak (aB (cH (ae (gu (jm rfl) PyProof.Rows.boot_min T.k_ (ae dv (d1 dv))) (d1 (gu (kM rfl) PyProof.Rows.boot_max T.j_ (ae dv (d1 dv))))))))
def k5 (c:CA):FS:=(aL (aA iH (aa (cT (isC c.Web) "pairs" (ab 0)) ah)))
def bz (c:CA):List D→Option D:=run 1 (k5 c)
theorem eX:Ok P w mg base 1 T.h2_.toFb (spD 1 (bz c)):=fD [] fun _ _ _ _ _ _ hr nd=>
 (ak (aB (de_t1 mW PyProof.Rows.boot_list T.h_ (d1 (df dv T.f_.cls T.l_)))))
def jw (c:CA):FS:=(ar (sset 2 (bD (aO ((bQ c.Web "ties" 1 (bz c) (ab 0) ah))) (au 0) (aj (ad oNe (ad oIn (ad oIx (ab 0) (ac (.int 0))) (ab 1)) (ad oIn (ad oIx (ab 0) (ac (.int 1))) (ab 1)))) (ab 0) 1 [1])) (dw 2 (aL (bD (aO (ab 2)) (au 0) cJ (dif (aj (ad oIn (ad oIx (ab 0) (ac (.int 0))) (ab 1))) (ad oIx (ab 0) (ac (.int 1))) (ad oIx (ab 0) (ac (.int 0)))) 1 [1]))))
def dC (c:CA):List D→Option D:=run 3 (jw c)
theorem i9:Ok P w mg base 2 T.i2_.toFb (spD 2 (dC c)):=fD ["leaving"] fun _ _ _ _ _ _ hr nd=>
 (ai (sc ["tie", "points"] nd (bf ((dm0 T.f_.cls (eX T) hr dv))) (fun nd _ _ _ _ _=>⟨(gn nd),(fx (iX (c_in (dx dv af) dv hr) (c_in (dx dv af) dv hr) hr)),dv⟩)) (ak (cI (aB (dc ["tie", "points"] (bf dv) (fun nd _ _ _ _ _=>⟨(gn nd),ck,(de_ifExp (t_in (dx dv af) dv hr) (dx dv af) (dx dv af))⟩))))))
def mr (c:CA):FS:=(ar (sset 2 (cA (aa (ab 0) ah))) (ar (sset 3 (ac (.int 0))) (ar (cU (aj (ad oLt (ab 3) (aA bJ (aa (ab 2) ah)))) (ar (bV (aO (ab 1)) (au 4) (sif ((fv (aj (ad oEq (ad oIx (ab 4) (ac (.int 0))) (ad oIx (ab 2) (ab 3)))) (aj (ad oNotIn (ad oIx (ab 4) (ac (.int 1))) (ab 2))))) (dg 2 (ad oIx (ab 4) (ac (.int 1)))) aD)) (j6 (·+·) 3 (ac (.int 1)))) 100) (fw 2))))
def gY (c:CA):List D→Option D:=run 5 (mr c)
theorem pq:Ok P w mg base 1 T.j2_.toFb (spD 2 (gY c)):=fD ["found", "place", "step"] fun _ _ _ _ _ _ hr nd=>
 (ai (sA nd (cj (d1 dv))) (ai (sA nd af) (ai (sw (tc2 dz dv (cD T.d_ dv)) (ai (sf (bf dv) (gn nd) (ak (i0 (t_and (t_eq (dx dv af) (dx dv dv) hr) (t_ni (dx dv af) dv hr)) (ak (cL (pv 2) (dx dv af)))))) (ak (sg nd af ip_add)))) (ak (gN (pv 2))))))
def F_is_walk (c:CA):FS:=(ar (sset 2 (ad oIx (ab 1) (ac (.int 0)))) (ar (sset 3 (ad oIx (ab 1) (ac (.int 1)))) (ar (sset 4 ((bQ c.Web "ties" 1 (bz c) (ab 0) ah))) (ar (sif (aj (ad oNe (aA bJ (aa (ab 2) ah)) (ad aZ (aA bJ (aa (ab 3) ah)) (ac (.int 1))))) (aL (ac (.bl false))) aD) (ar (dw 2 (sif (aU (aj (aA jo (aa (bD (aO (ab 2)) (au 0) cJ (ao 2 (bU c) (aa (ab 1) (aa (ab 0) ah))) 1 [0]) ah)))) (aL (ac (.bl false))) aD)) (ar (dw 3 (sif (aU (aj (aA jo (aa (bD (aO (ab 3)) (au 0) cJ (cS oLe oLt (ac (.int 0)) (ab 0) (aA bJ (aa (ab 1) ah))) 1 [4]) ah)))) (aL (ac (.bl false))) aD)) (dw 3 (aL (aA jo (aa (bD (iM (aa (ab 3) ah)) (jl 2 (cf (au 0) (cf (au 1) j4))) cJ (ad oEq (ad oIx (ab 2) (ab 1)) (ao 2 (b9 c) (aa (ad oIx (ab 3) (ab 0)) (aa (ad oIx (ab 3) (ad aZ (ab 0) (ac (.int 1)))) ah)))) 2 [4,2]) ah))))))))))
def jx (c:CA):List D→Option D:=run 5 (F_is_walk c)
theorem pw:Ok P w mg base 2 T.k2_.toFb (spD 2 (jx c)):=fD ["points", "places", "ties"] fun _ _ _ _ _ _ hr nd=>
 (ai (sA nd (dx dv af)) (ai (sA nd (dx dv af)) (ai (sA nd ((dm0 T.f_.cls (eX T) hr dv))) (ai (i0 (iX (cD T.d_ dv) (aX bc (cD T.d_ dv) af) hr) (ak (aB bE))) (ai (cI (i0 (br (bj (ml T.m_ (dc ["point", "web"] (bf dv) (fun nd _ _ _ _ _=>⟨(gn nd),ck,(du (fT T) hr (ae dv (d1 dv)))⟩))))) (ak (aB bE)))) (ai (cI (i0 (br (bj (ml T.m_ (dc ["place", "ties"] (bf dv) (fun nd _ _ _ _ _=>⟨(gn nd),ck,(nS ig dz af dv (cD T.d_ dv))⟩))))) (ak (aB bE)))) (ak (cI (aB (ml T.m_ (dc ["k", "place", "ties", "points"] (di_enum rfl T.n_ (d1 dv)) (fun nd _ _ _ _ _=>⟨(g2 (gn nd) (gn nd)),ck,(c_eq (dx dv dv) (du (kZ T) hr (ae (dx dv dv) (d1 (dx dv (aX bc dv af))))) hr)⟩))))))))))))
def F_is_way (c:CA):FS:=(aL ((e7 (ao 2 (jx c) (aa (ab 0) (aa (ab 1) ah))) (ao 1 (c6 c) (aa (ad oIx (ab 1) (ac (.int 0))) ah)))))
def gC (c:CA):List D→Option D:=run 2 (F_is_way c)
theorem ok_is_way:Ok P w mg base 3 T.l2_.toFb (spD 2 (gC c)):=fD [] fun _ _ _ _ _ _ hr nd=>
 (ak (aB ((dr (du (pw T) hr (ae dv (d1 dv))) (gp (du (hJ T) hr (d1 (dx dv af))))))))
def gD (c:CA):FS:=(me (kS (aO (ab 0)) (au 0) cJ (ntup (eI (fz (aA iH (aa (ad oIx (ab 0) (ac (.int 0))) ah))) (eI (fz (aA iH (aa (ad oIx (ab 0) (ac (.int 1))) ah))) md))) 1 []))
def c9 (c:CA):List D→Option D:=runN 1 (gD c)
theorem j9:Ok P w mg base 1 T.m2_.toFb (spN 1 (c9 c)):=fN [] fun _ _ _ _ _ _ hr nd=>
 (ak (kR (nc ["walk"] (bf dv) (fun nd _ _ _ _ _=>⟨(gn nd),ck,(dn_tup (iS (gT (de_t1 mW PyProof.Rows.boot_list T.h_ (d1 (dx dv af)))) (iS (gT (de_t1 mW PyProof.Rows.boot_list T.h_ (d1 (dx dv af)))) dna_nil)))⟩))))
def oE (c:CA):FS:=(ar (sset 1 (cA ah)) (ar (bV (aO (ab 0)) (au 2) (sext 1 (ad oIx (ab 2) (ac (.int 1))))) (fw 1)))
def gE (c:CA):List D→Option D:=run 3 (oE c)
theorem ni:Ok P w mg base 1 T.n2_.toFb (spD 1 (gE c)):=fD ["places", "walk"] fun _ _ _ _ _ _ hr nd=>
 (ai (sA nd (cj fO)) (ai (sf (bf dv) (gn nd) (ak (lY (pv 1) (dx dv af)))) (ak (gN (pv 1)))))
def k7 (c:CA):FS:=(ar (sif ((bo (aU (aj (ao 3 (bB c) (aa (ab 0) (aa (ab 2) (aa (ab 3) ah)))))) (aj (ad oNe (aA bJ (aa (ab 1) ah)) (ab 4))))) (aL (ac (.bl false))) aD) (aL (aA jo (aa (bD (aO (ab 1)) (au 0) cJ ((e7 (ao 2 (gC c) (aa (ab 1) (aa (ab 0) ah))) (e7 (ad oEq (ad oIx (ad oIx (ab 0) (ac (.int 0))) (ac (.int 0))) (ab 2)) (ad oEq (ad oIx (ad oIx (ab 0) (ac (.int 0))) (dun e8 (ac (.int 1)))) (ab 3))))) 1 [0,2,3]) ah))))
def eM (c:CA):List D→Option D:=run 5 (k7 c)
theorem oI:Ok P w mg base 4 T.o2_.toFb (spD 5 (eM c)):=fD [] fun _ _ _ _ _ _ hr nd=>
 (ai (i0 (ju (br (bj (du (c7 T) hr (ae dv (ae dv (d1 dv)))))) (iX (cD T.d_ dv) dv hr)) (ak (aB bE))) (ak (aB (ml T.m_ (dc ["way", "web", "one", "other"] (bf dv) (fun nd _ _ _ _ _=>⟨(gn nd),ck,((dr (du (ok_is_way T) hr (ae dv (d1 dv))) (dr (c_eq (dx (dx dv af) af) dv hr) (gp (c_eq (dx (dx dv af) (jp af)) dv hr)))))⟩))))))
def f9 (c:CA):FS:=(mf c.Ways "ways" (jM 1 (c9 c) (aa (ab 1) ah)))
def dS (c:CA):List D→Option (List (Str×D)):=fun ds=>unif fun p=>iU 2 c.Ways (f9 c) ds p
theorem jy:Ok P w mg base 2 T.p2_.toFb (spIN c.Ways 1 (dS c)):=fI [] fun _ _ _ _ _ _ hr nd=>
 (ak (kz (C:=c.Ways) (pv 0) (nu (j9 T) hr (d1 dv)) ⟨T.o_.cls,T.p_⟩))
def ja (c:CA):FS:=(aL ((e7 (ao 5 (eM c) (aa (ab 1) (aa (cT (isC c.Ways) "ways" (ab 0)) (aa (ab 2) (aa (ab 3) (aa (ab 4) ah)))))) (ao 1 (c6 c) (aa (ao 1 (gE c) (aa (cT (isC c.Ways) "ways" (ab 0)) ah)) ah)))))
def bh (c:CA):List D→Option D:=run 5 (ja c)
theorem eN:Ok P w mg base 5 T.q2_.toFb (spD 5 (bh c)):=fD [] fun _ _ _ _ _ _ hr nd=>
 (ak (aB ((dr (du (oI T) hr (ae dv (ae (df dv T.o_.cls T.p_) (ae dv (ae dv (d1 dv)))))) (gp (du (hJ T) hr (d1 (du (ni T) hr (d1 (df dv T.o_.cls T.p_))))))))))
def ga (c:CA):FS:=(mf c.Part "points" (fz (aA iH (aa (ab 1) ah))))
def dU (c:CA):List D→Option (List (Str×D)):=fun ds=>unif fun p=>iU 2 c.Part (ga c) ds p
theorem jz:Ok P w mg base 1 T.r2_.toFb (spIN c.Part 1 (dU c)):=fI [] fun _ _ _ _ _ _ hr nd=>
 (ak (kz (C:=c.Part) (pv 0) (gT (de_t1 mW PyProof.Rows.boot_list T.h_ (d1 dv))) ⟨T.q_.cls,T.r_⟩))
def cr (c:CA):FS:=(ar (sif ((bo (aU (aj (ao 3 (bB c) (aa (ab 1) (aa (ab 2) (aa (ab 3) ah)))))) (aU (aj (ao 2 (eL c) (aa (ab 1) (aa (cT (isC c.Part) "points" (ab 0)) ah))))))) (aL (ac (.bl false))) aD) (ar (sif ((bo (aj (ad oNotIn (ab 2) (cT (isC c.Part) "points" (ab 0)))) (aj (ad oIn (ab 3) (cT (isC c.Part) "points" (ab 0)))))) (aL (ac (.bl false))) aD) (aL (ad oLt (aA bJ (aa (ao 2 (dC c) (aa (ab 1) (aa (cT (isC c.Part) "points" (ab 0)) ah))) ah)) (ab 4)))))
def aW (c:CA):List D→Option D:=run 5 (cr c)
theorem fk:Ok P w mg base 3 T.s2_.toFb (spD 5 (aW c)):=fD [] fun _ _ _ _ _ _ hr nd=>
 (ai (i0 (ju (br (bj (du (c7 T) hr (ae dv (ae dv (d1 dv)))))) (br (bj (du (j8 T) hr (ae dv (d1 (df dv T.q_.cls T.r_))))))) (ak (aB bE))) (ai (i0 (ju (t_ni dv (df dv T.q_.cls T.r_) hr) (t_in dv (df dv T.q_.cls T.r_) hr)) (ak (aB bE))) (ak (aB (dc2 dz (cD T.d_ (du (i9 T) hr (ae dv (d1 (df dv T.q_.cls T.r_))))) dv)))))
def pz (c:CA):FS:=(ar (sset 1 (cA ah)) (ar (bV (iM (aa ((bQ c.Web "ties" 1 (bz c) (ab 0) ah)) ah)) (jl 2 (cf (au 2) (cf (au 3) j4))) (ar (dg 1 (b6 (aa (ad oIx (ab 3) (ac (.int 0))) (aa (ad oIx (ab 3) (ac (.int 1))) (aa (ab 2) ah))))) (dg 1 (b6 (aa (ad oIx (ab 3) (ac (.int 1))) (aa (ad oIx (ab 3) (ac (.int 0))) (aa (ab 2) ah))))))) (fw 1)))
def ip (c:CA):List D→Option D:=run 4 (pz c)
theorem oJ:Ok P w mg base 2 T.t2_.toFb (spD 1 (ip c)):=fD ["steps", "place", "tie"] fun _ _ _ _ _ _ hr nd=>
 (ai (sA nd (cj fO)) (ai (sf (di_enum rfl T.n_ (d1 ((dm0 T.f_.cls (eX T) hr dv)))) (g2 (gn nd) (gn nd)) (ai (cL (pv 1) (cH (ae (dx dv af) (ae (dx dv af) (d1 dv))))) (ak (cL (pv 1) (cH (ae (dx dv af) (ae (dx dv af) (d1 dv)))))))) (ak (gN (pv 1)))))
def oK (c:CA):FS:=(aL (bD (aO (ab 0)) (au 0) (aj (ad oNotIn (ad oIx (ab 0) (ac (.int 2))) (ab 1))) (ab 0) 1 [1]))
def cO (c:CA):List D→Option D:=run 2 (oK c)
theorem jb:Ok P w mg base 1 T.u2_.toFb (spD 2 (cO c)):=fD [] fun _ _ _ _ _ _ hr nd=>
 (ak (aB (dc ["step", "names"] (bf dv) (fun nd _ _ _ _ _=>⟨(gn nd),(fx (t_ni (dx dv af) dv hr)),dv⟩))))
def dW (c:CA):FS:=(ar (sset 3 (cA (aa (b6 (aa (cA (aa (ab 1) ah)) (aa (cA ah) ah))) ah))) (ar (sset 4 (cA (aa (ab 1) ah))) (ar (sset 5 (ac (.int 0))) (ar (cU (aj (ad oLt (ab 5) (aA bJ (aa (ab 3) ah)))) (ar (sset 6 (ad oIx (ad oIx (ab 3) (ab 5)) (ac (.int 0)))) (ar (sif (aj (ad oIn (ad oIx (ab 6) (dun e8 (ac (.int 1)))) (ab 2))) (aL (ad oIx (ab 3) (ab 5))) aD) (ar (bV (aO (ab 0)) (au 7) (sif ((fv (aj (ad oEq (ad oIx (ab 7) (ac (.int 0))) (ad oIx (ab 6) (dun e8 (ac (.int 1)))))) (aj (ad oNotIn (ad oIx (ab 7) (ac (.int 1))) (ab 4))))) (ar (dg 4 (ad oIx (ab 7) (ac (.int 1)))) (dg 3 (b6 (aa (ad aZ (ab 6) (cA (aa (ad oIx (ab 7) (ac (.int 1))) ah))) (aa (ad aZ (ad oIx (ad oIx (ab 3) (ab 5)) (ac (.int 1))) (cA (aa (ad oIx (ab 7) (ac (.int 2))) ah))) ah))))) aD)) (j6 (·+·) 5 (ac (.int 1)))))) 100) (aL (ac .non))))))
def a9 (c:CA):List D→Option D:=run 8 (dW c)
theorem dD:Ok P w mg base 1 T.v2_.toFb (spD 3 (a9 c)):=fD ["walks", "met", "place", "points", "step"] fun _ _ _ _ _ _ hr nd=>
 (ai (sA nd (cj (d1 (cH (ae (cj (d1 dv)) (d1 (cj fO))))))) (ai (sA nd (cj (d1 dv))) (ai (sA nd af) (ai (sw (tc2 dz dv (cD T.d_ dv)) (ai (sA nd (dx (dx dv dv) af)) (ai (i0 (t_in (dx dv (jp af)) dv hr) (ak (aB (dx dv dv)))) (ai (sf (bf dv) (gn nd) (ak (i0 (t_and (t_eq (dx dv af) (dx dv (jp af)) hr) (t_ni (dx dv af) dv hr)) (ai (cL (pv 4) (dx dv af)) (ak (cL (pv 3) (cH (ae (aX bc dv (cj (d1 (dx dv af)))) (d1 (aX bc (dx (dx dv dv) af) (cj (d1 (dx dv af))))))))))))) (ak (sg nd af ip_add)))))) (ak (aB de_non))))))
def hV (c:CA):FS:=(aL (b6 (aa (ad oIx (ab 0) (ac (.int 1))) (aa (ad oIx (ab 0) (ac (.int 0))) (aa (ad oIx (ab 0) (ac (.int 2))) ah)))))
def bq (c:CA):List D→Option D:=run 1 (hV c)
theorem eO:Ok P w mg base 1 T.w2_.toFb (spD 1 (bq c)):=fD [] fun _ _ _ _ _ _ hr nd=>
 (ak (aB (cH (ae (dx dv af) (ae (dx dv af) (d1 (dx dv af)))))))
def k9 (c:CA):FS:=(aL (gU (aa (ad oIx (ab 0) (ac (.int 0))) (aa (dP (ad oIx (ab 0) (ac (.int 0))) (fZ (ac (.int 1))) gt) (aa (ad oIx (ab 0) (ac (.int 1))) ah)))))
def bX (c:CA):List D→Option D:=run 1 (k9 c)
theorem jS:Ok P w mg base 1 T.x2_.toFb (spD 1 (bX c)):=fD [] fun _ _ _ _ _ _ hr nd=>
 (ak (aB (oq rfl (ae (dx dv af) (ae (iK (dx dv af) (kx af) kv) (d1 (dx dv af)))) rfl T.h_ rfl T.s_)))
def nj (c:CA):FS:=(aL (ad aZ (ao 2 (cO c) (aa (ab 0) (aa (bD (aO (ab 1)) (au 0) cJ (ad oIx (ab 0) (ac (.int 2))) 1 []) ah))) (bD (aO (ab 1)) (au 0) cJ (ao 1 (bq c) (aa (ab 0) ah)) 1 [])))
def cw (c:CA):List D→Option D:=run 2 (nj c)
theorem hX:Ok P w mg base 2 T.y2_.toFb (spD 2 (cw c)):=fD [] fun _ _ _ _ _ _ hr nd=>
 (ak (aB (aX bc (du (jb T) hr (ae dv (d1 (dc ["step"] (bf dv) (fun nd _ _ _ _ _=>⟨(gn nd),ck,(dx dv af)⟩))))) (dc ["step"] (bf dv) (fun nd _ _ _ _ _=>⟨(gn nd),ck,(du (eO T) hr (d1 dv))⟩)))))
def pA (c:CA):FS:=(ar (sset 2 (ao 1 (bX c) (aa (ab 1) ah))) (ar (sset 3 (bD (aO (ab 0)) (au 0) (aj (ad oNotIn (ao 1 (bq c) (aa (ab 0) ah)) (ab 1))) (ab 0) 1 [2])) (aL (ad aZ (ab 3) (bD (aO (ab 2)) (au 0) (aj (ad oNotIn (ao 1 (bq c) (aa (ab 0) ah)) (ab 1))) (ab 0) 1 [0])))))
def fU (c:CA):List D→Option D:=run 4 (pA c)
theorem oM:Ok P w mg base 2 T.z2_.toFb (spD 2 (fU c)):=fD ["added", "kept"] fun _ _ _ _ _ _ hr nd=>
 (ai (sA nd (du (jS T) hr (d1 dv))) (ai (sc ["step", "added"] nd (bf dv) (fun nd _ _ _ _ _=>⟨(gn nd),(fx (t_ni (du (eO T) hr (d1 dv)) dv hr)),dv⟩)) (ak (aB (aX bc dv (dc ["step", "gone"] (bf dv) (fun nd _ _ _ _ _=>⟨(gn nd),(fx (t_ni (du (eO T) hr (d1 dv)) dv hr)),dv⟩)))))))
def oN (c:CA):FS:=(ar (sset 4 (cA ah)) (ar (bV (eS (aa (ab 3) ah)) (au 5) (ar (dw 4 (sset 6 (ao 3 (a9 c) (aa (ao 2 (cw c) (aa (ab 0) (aa (ab 4) ah))) (aa (ab 1) (aa (cA (aa (ab 2) ah)) ah)))))) (ar (sif (aj (ad oIs (ab 6) (ac .non))) (fw 4) aD) (dw 4 (sset 4 (ao 2 (fU c) (aa (ab 4) (aa (ab 6) ah)))))))) (fw 4)))
def gF (c:CA):List D→Option D:=run 7 (oN c)
theorem nl:Ok P w mg base 3 T.a3_.toFb (spD 4 (gF c)):=fD ["gone", "turn", "walk"] fun _ _ _ _ _ _ hr nd=>
 (ai (sA nd (cj fO)) (ai (sf (ir T.i_ dv) (gn nd) (ai (cI (sA nd (du (dD T) hr (ae (du (hX T) hr (ae dv (d1 dv))) (ae dv (d1 (cj (d1 dv)))))))) (ai (i0 (tc2 op_oIs dv de_non) (ak (gN (pv 4)))) (ak (cI (sA nd (du (oM T) hr (ae dv (d1 dv))))))))) (ak (gN (pv 4)))))
def lF (c:CA):FS:=(ar (sset 4 (ao 4 (gF c) (aa (ab 0) (aa (ab 1) (aa (ab 2) (aa (ab 3) ah)))))) (ar (sset 5 (cA ah)) (ar (sset 6 (ao 3 (a9 c) (aa (ab 4) (aa (ab 1) (aa (cA (aa (ab 2) ah)) ah))))) (ar (cU (aj (ad cW (ab 6) (ac .non))) (ar (dg 5 (ab 6)) (ar (sset 4 (ao 2 (cO c) (aa (ab 4) (aa (ad oIx (ab 6) (ac (.int 1))) ah)))) (sset 6 (ao 3 (a9 c) (aa (ab 4) (aa (ab 1) (aa (cA (aa (ab 2) ah)) ah))))))) 100) (fw 5)))))
def dL (c:CA):List D→Option D:=run 7 (lF c)
theorem la:Ok P w mg base 4 T.b3_.toFb (spD 4 (dL c)):=fD ["left", "walks", "walk"] fun _ _ _ _ _ _ hr nd=>
 (ai (sA nd (du (nl T) hr (ae dv (ae dv (ae dv (d1 dv)))))) (ai (sA nd (cj fO)) (ai (sA nd (du (dD T) hr (ae dv (ae dv (d1 (cj (d1 dv))))))) (ai (sw (tc2 fA dv de_non) (ai (cL (pv 5) dv) (ai (sA nd (du (jb T) hr (ae dv (d1 (dx dv af))))) (ak (sA nd (du (dD T) hr (ae dv (ae dv (d1 (cj (d1 dv))))))))))) (ak (gN (pv 5)))))))
def F_side_of (c:CA):FS:=(ar (sset 3 (cA ah)) (ar (bV (aO (ab 1)) (au 4) (sext 3 (ao 1 (bX c) (aa (ab 4) ah)))) (dw 3 (aL (ao 2 (gY c) (aa (ab 2) (aa (ao 2 (cw c) (aa (ab 0) (aa (ab 3) ah))) ah)))))))
def fE (c:CA):List D→Option D:=run 5 (F_side_of c)
theorem pB:Ok P w mg base 3 T.c3_.toFb (spD 3 (fE c)):=fD ["gone", "walk"] fun _ _ _ _ _ _ hr nd=>
 (ai (sA nd (cj fO)) (ai (sf (bf dv) (gn nd) (ak (lY (pv 3) (du (jS T) hr (d1 dv))))) (ak (cI (aB (du (pq T) hr (ae dv (d1 (du (hX T) hr (ae dv (d1 dv)))))))))))
def oO (c:CA):FS:=(ar (sif ((bo (aU (aj (av eH (ab 0)))) (aj (ad oNe (aA bJ (aa (ab 0) ah)) (ac (.int 2)))))) (aL (ac (.bl false))) aD) (aL ((e7 (ao 1 (bK c) (aa (ad oIx (ab 0) (ac (.int 0))) ah)) (e7 (ao 1 (bK c) (aa (ad oIx (ab 0) (ac (.int 1))) ah)) (iO oLe oLt oLt (ac (.int 0)) (ad oIx (ab 0) (ac (.int 0))) (ad oIx (ab 0) (ac (.int 1))) (ab 1)))))))
def fF (c:CA):List D→Option D:=run 2 (oO c)
theorem ok_is_tie:Ok P w mg base 2 T.d3_.toFb (spD 2 (fF c)):=fD [] fun _ _ _ _ _ _ hr nd=>
 (ai (i0 (ju (br (bj (ot dv T.t_ T.b_))) (iX (cD T.d_ dv) af hr)) (ak (aB bE))) (ak (aB ((dr (du (cq T) hr (d1 (dx dv af))) (dr (du (cq T) hr (d1 (dx dv af))) (gp (de_chain3 ig dz dz af (dx dv af) (dx dv af) dv))))))))
def da (c:CA):FS:=(ar (sif ((bo (aU (aj (ao 1 (bK c) (aa (ab 1) ah)))) (aU (aj (cS oLe oLe (ac (.int 1)) (ab 1) (ac (.int 8))))))) ((fun _=>none)) aD) (ar (sif ((bo (aU (aj (av cn (ab 2)))) (aj (ad oGt (aA bJ (aa (ab 2) ah)) (ac (.int 14)))))) ((fun _=>none)) aD) (ar (sif (aU (aj (aA jo (aa (bD (aO (ab 2)) (au 0) cJ (ao 2 (fF c) (aa (ab 0) (aa (ab 1) ah))) 1 [1]) ah)))) ((fun _=>none)) aD) (ar (mf c.Web "points" (fz (ab 1))) (mf c.Web "pairs" (kS (aO (ab 2)) (au 0) cJ (ntup (eI (fz (ad oIx (ab 0) (ac (.int 0)))) (eI (fz (ad oIx (ab 0) (ac (.int 1)))) md))) 1 []))))))
def bF (c:CA):List D→Option (List (Str×D)):=fun ds=>unif fun p=>iU 3 c.Web (da c) ds p
theorem gb:Ok P w mg base 3 T.e3_.toFb (spIN c.Web 2 (bF c)):=fI [] fun _ _ _ _ _ _ hr nd=>
 (ai (i0 (ju (br (bj (du (cq T) hr (d1 dv)))) (br (kL ig ig af dv (dk T.u_)))) (ak (gq))) (ai (i0 (ju (br (bj (iW dv T.h_ T.b_))) (tc2 mV (cD T.d_ dv) (dk T.v_))) (ak (gq))) (ai (i0 (br (bj (ml T.m_ (dc ["tie", "points"] (bf dv) (fun nd _ _ _ _ _=>⟨(gn nd),ck,(du (ok_is_tie T) hr (ae dv (d1 dv)))⟩))))) (ak (gq))) (ai (kz (C:=c.Web) (pv 0) (gT dv) ⟨T.f_.cls,T.g_⟩) (ak (kz (C:=c.Web) (pv 0) (nc ["tie"] (bf dv) (fun nd _ _ _ _ _=>⟨(gn nd),ck,(dn_tup (iS (gT (dx dv af)) (iS (gT (dx dv af)) dna_nil)))⟩)) ⟨T.f_.cls,T.l_⟩))))))
def gc (c:CA):FS:=(aL ((e7 (av (nh c) (ab 0)) (e7 (ao 1 (bK c) (aa (ab 1) ah)) (e7 (ao 1 (bK c) (aa (ab 2) ah)) (ao 3 (bB c) (aa (ab 0) (aa (ab 1) (aa (ab 2) ah)))))))))
def cE (c:CA):List D→Option D:=run 3 (gc c)
theorem jA:Ok P w mg base 3 T.f3_.toFb (spD 3 (cE c)):=fD [] fun _ _ _ _ _ _ hr nd=>
 (ak (aB ((dr (ii_c dv T.f_ (K_Web T) T.b_) (dr (du (cq T) hr (d1 dv)) (dr (du (cq T) hr (d1 dv)) (gp (du (c7 T) hr (ae dv (ae dv (d1 dv)))))))))))
def gd (c:CA):FS:=(sif (aU (aj (ao 3 (cE c) (aa (ab 0) (aa (ab 1) (aa (ab 2) ah)))))) ((fun _=>none)) aD)
def cF (c:CA):List D→Option D:=run 3 (gd c)
theorem jB:Ok P w mg base 4 T.g3_.toFb (spD 3 (cF c)):=fD [] fun _ _ _ _ _ _ hr nd=>
 (ak (i0 (br (bj (du (jA T) hr (ae dv (ae dv (d1 dv)))))) (ak (gq))))
def gG (c:CA):FS:=(sif ((bo (aU (aj (ao 1 (bK c) (aa (ab 0) ah)))) (aU (aj (cS oLe oLe (ac (.int 1)) (ab 0) (ab 1)))))) ((fun _=>none)) aD)
def db (c:CA):List D→Option D:=run 2 (gG c)
theorem kc:Ok P w mg base 2 T.h3_.toFb (spD 2 (db c)):=fD [] fun _ _ _ _ _ _ hr nd=>
 (ak (i0 (ju (br (bj (du (cq T) hr (d1 dv)))) (br (kL ig ig af dv dv))) (ak (gq))))
def kD (c:CA):FS:=(ar (mj (ao 3 (cF c) (aa (ab 0) (aa (ab 1) (aa (ab 2) ah))))) (ar (mj (ao 2 (db c) (aa (ab 3) (aa (ac (.int 14)) ah)))) (ar (sset 4 (ao 1 (ip c) (aa (ab 0) ah))) (ar (sset 5 (ao 4 (dL c) (aa (ab 4) (aa (ab 1) (aa (ab 2) (aa (ab 3) ah)))))) (ar (sif (aj (ad oEq (aA bJ (aa (ab 5) ah)) (ab 3))) (me (f6 c.Ways 1 (dS c) (aa (ab 5) ah))) aD) (me (f6 c.Part 1 (dU c) (aa (aA gQ (aa (ao 3 (fE c) (aa (ab 4) (aa (ab 5) (aa (ab 1) ah)))) ah)) ah))))))))
def jc (c:CA):List D→Option D:=runN 6 (kD c)
theorem ok_apart:Ok P w mg base 5 T.i3_.toFb (spN 4 (jc c)):=fN ["steps", "walks"] fun _ _ _ _ _ _ hr nd=>
 (ai (ds_drop (du (jB T) hr (ae dv (ae dv (d1 dv))))) (ai (ds_drop (du (kc T) hr (ae dv (d1 (dk T.x_))))) (ai (sA nd (du (oJ T) hr (d1 dv))) (ai (sA nd (du (la T) hr (ae dv (ae dv (ae dv (d1 dv)))))) (ai (i0 (t_eq (cD T.d_ dv) dv hr) (ak (kR (nk T.o_ (jy T) hr (d1 dv))))) (ak (kR (nk T.q_ (jz T) hr (d1 (de_b1 c_sorted PyProof.Rows.boot_sorted T.y_ (d1 (du (pB T) hr (ae dv (ae dv (d1 dv)))))))))))))))
noncomputable def ca (c:CA) (K:PySem.W.Frag):FS:=(ar (sif (aj (ad oLt (ab 1) (dlenS K 0))) (aL (dixS K 0 (ab 1))) aD) (aL (ac (.int 0))))
noncomputable def a0 (c:CA) (K:PySem.W.Frag):List Int→Int→Option Int:=runS 2 K (ca c K)
theorem eP:Ok P w mg base 1 T.j3_.toFb (spS K (a0 c K)):=fS [] fun _ _ _ _ _ _ hr nd=>
 (ai (i0 (tc2 dz dv (de_lenS (pv 0) (by rfl) T.d_)) (ak (aB (de_ixS (pv 0) dv (fun _ _=>rfl))))) (ak (aB af)))
def pC (c:CA):FS:=(ar (sset 3 (b6 (aa (ac (.int 1000003)) (aa (ac (.int 1000033)) (aa (ac (.int 1000037)) (aa (ac (.int 1000039)) (aa (ac (.int 1000081)) (aa (ac (.int 1000099)) (aa (ac (.int 1000117)) (aa (ac (.int 1000121)) (aa (ac (.int 1000133)) (aa (ac (.int 1000151)) (aa (ac (.int 1000159)) (aa (ac (.int 1000171)) (aa (ac (.int 1000183)) (aa (ac (.int 1000187)) (aa (ac (.int 1000193)) (aa (ac (.int 1000199)) ah)))))))))))))))))) (aL (ad oMod (ad oMod (ad aZ (ad cb (ab 0) (ac (.int 48271))) (ad cb (ab 1) (ac (.int 69621)))) (ad oIx (ab 3) (ad oMod (ab 1) (ac (.int 16))))) (ab 2))))
def aC (c:CA):List D→Option D:=run 4 (pC c)
theorem bi:Ok P w mg base 1 T.k3_.toFb (spD 3 (aC c)):=fD ["_law_primes"] fun _ _ _ _ _ _ hr nd=>
 (ai (sA nd (cH (ae af (ae af (ae af (ae af (ae af (ae af (ae af (ae af (ae af (ae af (ae af (ae af (ae af (ae af (ae af (d1 af)))))))))))))))))) (ak (aB (aX fQ (aX fQ (aX bc (aX d6 dv af) (aX d6 dv af)) (dx dv (aX fQ dv af))) dv))))
def pD (c:CA):FS:=(ar (sset 2 (aY eG (aa (ab 1) (aa (ad oIx (b6 (aa (ac (.int 4)) (aa (ac (.int 5)) (aa (ac (.int 3)) (aa (ac (.int 6)) (aa (ac (.int 2)) (aa (ac (.int 7)) (aa (ac (.int 1)) (aa (ac (.int 8)) ah))))))))) (ao 3 (aC c) (aa (ab 0) (aa (ac (.int 1)) (aa (ac (.int 8)) ah))))) ah)))) (ar (sset 3 (ao 3 (aC c) (aa (ab 0) (aa (ac (.int 2)) (aa (ac (.int 4)) ah))))) (ar (sset 4 (cA ah)) (ar (sset 5 (ad oIx (b6 (aa (ac (.int 1)) (aa (ac (.int 3)) (aa (ac (.int 5)) (aa (ac (.int 7)) ah))))) (ao 3 (aC c) (aa (ab 0) (aa (ac (.int 3)) (aa (ac (.int 4)) ah)))))) (ar (sif ((fv (aj (ad oEq (ad oMod (ab 2) (ab 5)) (ac (.int 0)))) (aj (ad oGt (ab 5) (ac (.int 1)))))) (sset 5 (ac (.int 1))) aD) (ar (sif ((fv (aj (ad oGt (ab 3) (ac (.int 0)))) (aj (ad oGt (ab 2) (ac (.int 1)))))) (bV (eS (aa (ad aZ (ad oSub (ab 2) (ac (.int 1))) (aY dh (aa (ad oSub (ab 3) (ac (.int 1))) (aa (ac (.int 1)) ah)))) ah)) (au 6) (ar (lZ 7 8 (ad oMod (ad cb (ab 6) (ab 5)) (ab 2)) (ad oMod (ad cb (ad aZ (ab 6) (ac (.int 1))) (ab 5)) (ab 2))) (dg 4 (b6 (aa (aY dh (aa (ab 7) (aa (ab 8) ah))) (aa (aY eG (aa (ab 7) (aa (ab 8) ah))) ah)))))) aD) (ar (sset 9 (ad oIx (b6 (aa (ac (.int 9)) (aa (ac (.int 4)) ah))) (aY dh (aa (ab 3) (aa (ac (.int 1)) ah))))) (ar (sif (aj (ad oEq (ao 3 (aC c) (aa (ab 0) (aa (ac (.int 8)) (aa (ac (.int 4)) ah)))) (ac (.int 0)))) (sset 9 (ac (.int 15))) aD) (ar (dw 9 (bV (eS (aa (ao 3 (aC c) (aa (ab 0) (aa (ac (.int 4)) (aa (ab 9) ah)))) ah)) (au 6) (ar (sset 7 (ao 3 (aC c) (aa (ad cb (ad aZ (ab 0) (ad cb (ac (.int 977)) (ab 6))) (ad aZ (ab 6) (ac (.int 3)))) (aa (ac (.int 5)) (aa (ab 2) ah))))) (ar (sset 8 (ao 3 (aC c) (aa (ad cb (ad aZ (ab 0) (ad cb (ac (.int 31)) (ab 6))) (ad aZ (ab 6) (ac (.int 5)))) (aa (ac (.int 6)) (aa (ab 2) ah))))) (sif (aj (ad oNe (ab 7) (ab 8))) (dg 4 (b6 (aa (aY dh (aa (ab 7) (aa (ab 8) ah))) (aa (aY eG (aa (ab 7) (aa (ab 8) ah))) ah)))) aD))))) (ar (sif (aj (ad oEq (ao 3 (aC c) (aa (ab 0) (aa (ac (.int 7)) (aa (ac (.int 2)) ah)))) (ac (.int 0)))) (sset 4 (drev (ab 4) (dun e8 (ac (.int 1))))) aD) (aL (b6 (aa (ab 2) (aa (dP (ab 4) gt (fZ (ac (.int 14)))) ah))))))))))))))
def fV (c:CA):List D→Option D:=run 10 (pD c)
theorem oP:Ok P w mg base 2 T.l3_.toFb (spD 2 (fV c)):=fD ["_law_points", "_law_kind", "_law_ties", "_law_turn", "_law_k", "_law_one", "_law_other", "_law_most"] fun _ _ _ _ _ _ hr nd=>
 (ai (sA nd (gu (kM rfl) PyProof.Rows.boot_max T.j_ (ae dv (d1 (dx (cH (ae af (ae af (ae af (ae af (ae af (ae af (ae af (d1 af))))))))) (du (bi T) hr (ae dv (ae af (d1 af))))))))) (ai (sA nd (du (bi T) hr (ae dv (ae af (d1 af))))) (ai (sA nd (cj fO)) (ai (sA nd (dx (cH (ae af (ae af (ae af (d1 af))))) (du (bi T) hr (ae dv (ae af (d1 af)))))) (ai (i0 (t_and (t_eq (aX fQ dv dv) af hr) (tc2 mV dv af)) (ak (sA nd af))) (ai (i0 (t_and (tc2 mV dv af) (tc2 mV dv af)) (ak (sf (ir T.i_ (aX bc (aX mU dv af) (gu (jm rfl) PyProof.Rows.boot_min T.k_ (ae (aX mU dv af) (d1 af))))) (gn nd) (ai (ds_par rfl nd rfl rfl (by decide) rfl rfl (aX fQ (aX d6 dv dv) dv) (aX fQ (aX d6 (aX bc dv af) dv) dv) rfl) (ak (cL (pv 4) (cH (ae (gu (jm rfl) PyProof.Rows.boot_min T.k_ (ae dv (d1 dv))) (d1 (gu (kM rfl) PyProof.Rows.boot_max T.j_ (ae dv (d1 dv)))))))))))) (ai (sA nd (dx (cH (ae af (d1 af))) (gu (jm rfl) PyProof.Rows.boot_min T.k_ (ae dv (d1 af))))) (ai (i0 (t_eq (du (bi T) hr (ae dv (ae af (d1 af)))) af hr) (ak (sA nd af))) (ai (cI (sf (ir T.i_ (du (bi T) hr (ae dv (ae af (d1 dv))))) (gn nd) (ai (sA nd (du (bi T) hr (ae (aX d6 (aX bc dv (aX d6 af dv)) (aX bc dv af)) (ae af (d1 dv))))) (ai (sA nd (du (bi T) hr (ae (aX d6 (aX bc dv (aX d6 af dv)) (aX bc dv af)) (ae af (d1 dv))))) (ak (i0 (iX dv dv hr) (ak (cL (pv 4) (cH (ae (gu (jm rfl) PyProof.Rows.boot_min T.k_ (ae dv (d1 dv))) (d1 (gu (kM rfl) PyProof.Rows.boot_max T.j_ (ae dv (d1 dv)))))))))))))) (ai (i0 (t_eq (du (bi T) hr (ae dv (ae af (d1 af)))) af hr) (ak (sA nd (de_rev dv (jp af))))) (ak (aB (cH (ae dv (d1 (iK dv kv (kx af)))))))))))))))))
def lG (c:CA):FS:=(aL (aA bJ (aa (bD (aO (ab 0)) (jl 2 (cf (au 0) (cf (au 1) j4))) (aj (ad oNe (ad oIn (ab 0) (ab 2)) (ad oIn (ab 1) (ab 2)))) (ac (.int 1)) 2 [1]) ah)))
def bN (c:CA):List D→Option D:=run 2 (lG c)
theorem gH:Ok P w mg base 1 T.m3_.toFb (spD 2 (bN c)):=fD [] fun _ _ _ _ _ _ hr nd=>
 (ak (aB (cD T.d_ (dc ["_law_one", "_law_other", "_law_some"] (bf dv) (fun nd _ _ _ _ _=>⟨(g2 (gn nd) (gn nd)),(fx (iX (c_in dv dv hr) (c_in dv dv hr) hr)),af⟩)))))
def nv (c:CA):FS:=(ar (sif (aU (aj (av cn (ab 0)))) (aL (ac (.bl false))) aD) (ar (sset 2 (dun e8 (ac (.int 1)))) (ar (bV (aO (ab 0)) (au 3) (ar (sif ((bo (aj (av is_bool (ab 3))) (bo (aU (aj (av dA (ab 3)))) (aU (aj (cS oLt oLt (ab 2) (ab 3) (ab 1))))))) (aL (ac (.bl false))) aD) (sset 2 (ab 3)))) (aL (ac (.bl true))))))
def eB (c:CA):List D→Option D:=run 4 (nv c)
theorem lH:Ok P w mg base 1 T.n3_.toFb (spD 2 (eB c)):=fD ["_law_last", "_law_point"] fun _ _ _ _ _ _ hr nd=>
 (ai (i0 (br (bj (iW dv T.h_ T.b_))) (ak (aB bE))) (ai (sA nd (jp af)) (ai (sf (bf dv) (gn nd) (ai (i0 (t_or3 (bj (m6 dv T.a_ T.b_)) (br (bj (ii_int dv T.c_ T.b_))) (br (kL dz dz dv dv dv))) (ak (aB bE))) (ak (sA nd dv)))) (ak (aB bE)))))
def lI (c:CA):FS:=(ar (sif ((bo (aU (aj (av eH (ab 1)))) (bo (aj (ad oNe (aA bJ (aa (ab 1) ah)) (ac (.int 2)))) (bo (aU (aj (av cn (ad oIx (ab 1) (ac (.int 0)))))) (aU (aj (av cn (ad oIx (ab 1) (ac (.int 1)))))))))) (aL (ac (.bl false))) aD) (ar (sasg (ab 1) (jl 2 (cf (au 2) (cf (au 3) j4)))) (ar (sif ((bo (aj (ad oNe (aA bJ (aa (ab 2) ah)) (ad aZ (aA bJ (aa (ab 3) ah)) (ac (.int 1))))) (aj (ad oNe (cV (ab 3)) (aA bJ (aa (ab 3) ah)))))) (aL (ac (.bl false))) aD) (ar (bV (aO (ad aZ (ab 2) (ab 3))) (au 4) (sif ((bo (aj (av is_bool (ab 4))) (bo (aU (aj (av dA (ab 4)))) (aj (ad oLt (ab 4) (ac (.int 0))))))) (aL (ac (.bl false))) aD)) (ar (sif ((bo (aj (ad oGe (aA jJ (aa (ab 2) ah)) (ad oIx (ab 0) (ac (.int 0))))) (aU (aj (aA jo (aa (bD (aO (ab 3)) (au 0) cJ (ad oLt (ab 0) (aA bJ (aa (ad oIx (ab 1) (ac (.int 1))) ah))) 1 [0]) ah)))))) (aL (ac (.bl false))) aD) (ar (bV (eS (aa (aA bJ (aa (ab 3) ah)) ah)) (au 5) (sif (aj (ad oNe (ad oIx (ad oIx (ab 0) (ac (.int 1))) (ad oIx (ab 3) (ab 5))) (b6 (aa (aY dh (aa (ad oIx (ab 2) (ab 5)) (aa (ad oIx (ab 2) (ad aZ (ab 5) (ac (.int 1)))) ah))) (aa (aY eG (aa (ad oIx (ab 2) (ab 5)) (aa (ad oIx (ab 2) (ad aZ (ab 5) (ac (.int 1)))) ah))) ah))))) (aL (ac (.bl false))) aD)) (aL (ac (.bl true)))))))))
def fq (c:CA):List D→Option D:=run 6 (lI c)
theorem lb:Ok P w mg base 1 T.o3_.toFb (spD 2 (fq c)):=fD ["_law_points", "_law_places", "_law_number", "_law_k"] fun _ _ _ _ _ _ hr nd=>
 (ai (i0 (DW.dt (lW (br (bj (ot dv T.t_ T.b_))) (lW (iX (cD T.d_ dv) af hr) (lW (br (bj (iW (dx dv af) T.h_ T.b_))) (dw_or1 (br (bj (iW (dx dv af) T.h_ T.b_)))))))) (ak (aB bE))) (ai (ds_asg dv (g2 (gn nd) (gn nd))) (ai (i0 (ju (iX (cD T.d_ dv) (aX bc (cD T.d_ dv) af) hr) (iX (gP rfl dv rfl T.d_ rfl T.e_) (cD T.d_ dv) hr)) (ak (aB bE))) (ai (sf (bf (aX bc dv dv)) (gn nd) (ak (i0 (t_or3 (bj (m6 dv T.a_ T.b_)) (br (bj (ii_int dv T.c_ T.b_))) (tc2 dz dv af)) (ak (aB bE))))) (ai (i0 (ju (tc2 op_oGe (de_b1 (c_max1 rfl) PyProof.Rows.boot_max T.j_ (d1 dv)) (dx dv af)) (br (bj (ml T.m_ (dc ["_law_place", "_law_told_here"] (bf dv) (fun nd _ _ _ _ _=>⟨(gn nd),ck,(dc2 dz dv (cD T.d_ (dx dv af)))⟩)))))) (ak (aB bE))) (ai (sf (ir T.i_ (cD T.d_ dv)) (gn nd) (ak (i0 (iX (dx (dx dv af) (dx dv dv)) (cH (ae (gu (jm rfl) PyProof.Rows.boot_min T.k_ (ae (dx dv dv) (d1 (dx dv (aX bc dv af))))) (d1 (gu (kM rfl) PyProof.Rows.boot_max T.j_ (ae (dx dv dv) (d1 (dx dv (aX bc dv af)))))))) hr) (ak (aB bE))))) (ak (aB bE))))))))
def ny (c:CA):FS:=(aL ((e7 (ao 2 (fq c) (aa (ab 0) (aa (ab 1) ah))) (ad oEq (cV (ad oIx (ab 1) (ac (.int 0)))) (aA bJ (aa (ad oIx (ab 1) (ac (.int 0))) ah))))))
def cx (c:CA):List D→Option D:=run 2 (ny c)
theorem lJ:Ok P w mg base 2 T.p3_.toFb (spD 2 (cx c)):=fD [] fun _ _ _ _ _ _ hr nd=>
 (ak (aB ((dr (du (lb T) hr (ae dv (d1 dv))) (gp (c_eq (gP rfl (dx dv af) rfl T.d_ rfl T.e_) (cD T.d_ (dx dv af)) hr))))))
def oQ (c:CA):FS:=(ar (sif ((bo (aU (aj (av cn (ab 4)))) (aj (ad oNe (aA bJ (aa (ab 4) ah)) (ab 3))))) (aL (ac (.bl false))) aD) (ar (sset 5 (cA ah)) (ar (bV (aO (ab 4)) (au 6) (ar (sif ((bo (aU (aj (ao 2 (cx c) (aa (ab 0) (aa (ab 6) ah))))) (bo (aj (ad oNe (ad oIx (ad oIx (ab 6) (ac (.int 0))) (ac (.int 0))) (ab 1))) (aj (ad oNe (ad oIx (ad oIx (ab 6) (ac (.int 0))) (dun e8 (ac (.int 1)))) (ab 2)))))) (aL (ac (.bl false))) aD) (sset 5 (ad aZ (ab 5) (ad oIx (ab 6) (ac (.int 1))))))) (aL (ad oEq (cV (ab 5)) (aA bJ (aa (ab 5) ah)))))))
def eY (c:CA):List D→Option D:=run 7 (oQ c)
theorem nz:Ok P w mg base 3 T.q3_.toFb (spD 5 (eY c)):=fD ["_law_gone", "_law_way"] fun _ _ _ _ _ _ hr nd=>
 (ai (i0 (ju (br (bj (iW dv T.h_ T.b_))) (iX (cD T.d_ dv) dv hr)) (ak (aB bE))) (ai (sA nd (cj fO)) (ai (sf (bf dv) (gn nd) (ai (i0 (t_or3 (br (bj (du (lJ T) hr (ae dv (d1 dv))))) (iX (dx (dx dv af) af) dv hr) (iX (dx (dx dv af) (jp af)) dv hr)) (ak (aB bE))) (ak (sA nd (aX bc dv (dx dv af)))))) (ak (aB (c_eq (gP rfl dv rfl T.d_ rfl T.e_) (cD T.d_ dv) hr))))))
noncomputable def F_law (c:CA) (K:PySem.W.Frag):FS:=(ar (sset 1 (ao 2 (fV c) (aa (ad aZ (eJ K 0 (a0 c K) (ac (.int 0))) (ad cb (ac (.int 31)) (eJ K 0 (a0 c K) (ac (.int 1))))) (aa (ac (.int 2)) ah)))) (ar (sset 2 (dnw (f6 c.Web 2 (bF c) (aa (ad oIx (ab 1) (ac (.int 0))) (aa (ad oIx (ab 1) (ac (.int 1))) ah))))) (ar (bV (eS (aa (ac (.int 6)) ah)) (au 3) (ar (sset 4 (ad aZ (eJ K 0 (a0 c K) (ad aZ (ac (.int 2)) (ad oDiv (ab 3) (ac (.int 2))))) (ad oDiv (ab 3) (ac (.int 2))))) (ar (dw 4 (sset 5 (ao 3 (aC c) (aa (ab 4) (aa (ac (.int 1)) (aa (ad oIx (ab 1) (ac (.int 0))) ah)))))) (ar (dw 4 (sset 6 (ad oMod (ad aZ (ad aZ (ab 5) (ac (.int 1))) (ao 3 (aC c) (aa (ab 4) (aa (ac (.int 2)) (aa (ad oSub (ad oIx (ab 1) (ac (.int 0))) (ac (.int 1))) ah))))) (ad oIx (ab 1) (ac (.int 0)))))) (ar (dw 4 (sset 7 (ad aZ (ac (.int 1)) (ao 3 (aC c) (aa (ab 4) (aa (ac (.int 3)) (aa (ad oIx (b6 (aa (ac (.int 3)) (aa (ac (.int 4)) (aa (ac (.int 14)) ah)))) (ao 3 (aC c) (aa (ab 4) (aa (ac (.int 4)) (aa (ac (.int 3)) ah))))) ah))))))) (ar (dw 7 (dw 6 (iT 8 (jM 4 (jc c) (aa (ab 2) (aa (ab 5) (aa (ab 6) (aa (ab 7) ah)))))))) (ar (dN 8 ((bo (aU (aj (av (cN c) (ab 8)))) (aj (ad oEq (av (eW c) (ab 8)) (av (dJ c) (ab 8)))))) (aL (ac (.bl false))) aD) (ar (dN 8 ((bo (aj (av (eV c) (ab 8))) (aj (av (gB c) (ab 8))))) (aL (ac (.bl false))) aD) (dN 8 (aj (av (dJ c) (ab 8))) (ar (dN 8 ((bo (aj (ad cW ((bQ c.Part "shows" 5 (aW c) (ab 8) (aa (ab 2) (aa (ab 5) (aa (ab 6) (aa (ab 7) ah)))))) (ac (.bl true)))) (aU (aj (ao 2 (eB c) (aa (cT (isC c.Part) "points" (ab 8)) (aa (ad oIx (ab 1) (ac (.int 0))) ah))))))) (aL (ac (.bl false))) aD) (ar (dN 8 ((bo (aj (ad oNotIn (ab 5) (cT (isC c.Part) "points" (ab 8)))) (bo (aj (ad oIn (ab 6) (cT (isC c.Part) "points" (ab 8)))) (aj (ad oGe (ao 2 (bN c) (aa (ad oIx (ab 1) (ac (.int 1))) (aa (cT (isC c.Part) "points" (ab 8)) ah))) (ab 7)))))) (aL (ac (.bl false))) aD) (ar (mh 8 9 (ad oLt (ao 2 (bN c) (aa (dP (ad oIx (ab 1) (ac (.int 1))) (fZ (ac (.int 1))) gt) (aa (cT (isC c.Part) "points" (ab 8)) ah))) (ab 7))) (ar (dN 8 (aj (ad oNe ((bQ c.Part "shows" 5 (aW c) (ab 8) (aa (dnw (f6 c.Web 2 (bF c) (aa (ad oIx (ab 1) (ac (.int 0))) (aa (dP (ad oIx (ab 1) (ac (.int 1))) (fZ (ac (.int 1))) gt) ah)))) (aa (ab 5) (aa (ab 6) (aa (ab 7) ah)))))) (ab 9))) (aL (ac (.bl false))) aD) (ar (smut 8 ([]++[.f c.Part "points"]) iV) (dN 8 (aj (ad cW ((bQ c.Part "shows" 5 (aW c) (ab 8) (aa (ab 2) (aa (ab 5) (aa (ab 6) (aa (ab 7) ah)))))) (ac (.bl false)))) (aL (ac (.bl false))) aD)))))) (ar (dN 8 (aj (ad cW ((bQ c.Ways "ties_apart" 5 (bh c) (ab 8) (aa (ab 2) (aa (ab 5) (aa (ab 6) (aa (ab 7) ah)))))) (ac (.bl true)))) (aL (ac (.bl false))) aD) (ar (dw 7 (dw 6 (dN 8 (aU (aj (ao 5 (eY c) (aa (ab 1) (aa (ab 5) (aa (ab 6) (aa (ab 7) (aa (cT (isC c.Ways) "ways" (ab 8)) ah)))))))) (aL (ac (.bl false))) aD))) (ar (smut 8 ([]++[.f c.Ways "ways"]) mi) (dN 8 (aj (ad cW ((bQ c.Ways "ties_apart" 5 (bh c) (ab 8) (aa (ab 2) (aa (ab 5) (aa (ab 6) (aa (ab 7) ah)))))) (ac (.bl false)))) (aL (ac (.bl false))) aD))))))))))))) (aL (ad oEq ((bQ c.Web "ties" 1 (bz c) (ab 2) ah)) (ad oIx (ab 1) (ac (.int 1))))))))
noncomputable def m_law (c:CA) (K:PySem.W.Frag):List Int→Option D:=runL 10 K (F_law c K)
theorem ok_law:Ok P w mg base 6 T.law.toFb (spL K (m_law c K)):=fL ["_law_told_here", "_law_web", "_law_at", "_law_cell", "_law_one", "_law_other", "_law_many", "_law_found", "_law_fewer"] fun _ _ _ _ _ _ hr nd=>
 (ai (sA nd (du (oP T) hr (ae (aX bc (duS (eP T) hr (pv 0) af) (aX d6 af (duS (eP T) hr (pv 0) af))) (d1 af)))) (ai (sA nd (de_dn (nk T.f_ (gb T) hr (ae (dx dv af) (d1 (dx dv af)))))) (ai (sf (ir T.i_ af) (gn nd) (ai (sA nd (aX bc (duS (eP T) hr (pv 0) (aX bc af (aX op_oDiv dv af))) (aX op_oDiv dv af))) (ai (cI (sA nd (du (bi T) hr (ae dv (ae af (d1 (dx dv af))))))) (ai (cI (sA nd (aX fQ (aX bc (aX bc dv af) (du (bi T) hr (ae dv (ae af (d1 (aX mU (dx dv af) af)))))) (dx dv af)))) (ai (cI (sA nd (aX bc af (du (bi T) hr (ae dv (ae af (d1 (dx (cH (ae af (ae af (d1 af)))) (du (bi T) hr (ae dv (ae af (d1 af)))))))))))) (ai (cI (cI (stN nd (nu (ok_apart T) hr (ae dv (ae dv (ae dv (d1 dv)))))))) (ai (iB0 (ju (br (bj (ii_c dv T.b1_ (K_Answer T) T.b_))) (t_eq (ii_c dv T.o_ (K_Ways T) T.b_) (ii_c dv T.q_ (K_Part T) T.b_) hr)) (ak (aB bE))) (ai (iB0 (ju (bj (ii_c dv T.f1_ (K_Wall T) T.b_)) (bj (ii_c dv T.d1_ (K_Bar T) T.b_))) (ak (aB bE))) (ak (ds_ifB (bj (ii_c dv T.q_ (K_Part T) T.b_)) (ai (iB0 (ju (tc2 fA ((dm T.q_.cls (fk T) hr dv (ae dv (ae dv (ae dv (d1 dv)))))) bE) (br (bj (du (lH T) hr (ae (df dv T.q_.cls T.r_) (d1 (dx dv af))))))) (ak (aB bE))) (ai (iB0 (t_or3 (t_ni dv (df dv T.q_.cls T.r_) hr) (t_in dv (df dv T.q_.cls T.r_) hr) (tc2 op_oGe (du (gH T) hr (ae (dx dv af) (d1 (df dv T.q_.cls T.r_)))) dv)) (ak (aB bE))) (ai (stB nd (dc2 dz (du (gH T) hr (ae (iK (dx dv af) (kx af) kv) (d1 (df dv T.q_.cls T.r_)))) dv)) (ai (iB0 (iX ((dm T.q_.cls (fk T) hr dv (ae (de_dn (nk T.f_ (gb T) hr (ae (dx dv af) (d1 (iK (dx dv af) (kx af) kv))))) (ae dv (ae dv (d1 dv)))))) dv hr) (ak (aB bE))) (ai (ds_mclear (dp_fld (C:=c.Part) (dp_var (pv 8)) ⟨T.q_.cls,T.r_⟩)) (ak (iB0 (tc2 fA ((dm T.q_.cls (fk T) hr dv (ae dv (ae dv (ae dv (d1 dv)))))) bE) (ak (aB bE))))))))) (ai (iB0 (tc2 fA ((dm T.o_.cls (eN T) hr dv (ae dv (ae dv (ae dv (d1 dv)))))) bE) (ak (aB bE))) (ai (cI (cI (iB0 (br (bj (du (nz T) hr (ae dv (ae dv (ae dv (ae dv (d1 (df dv T.o_.cls T.p_))))))))) (ak (aB bE))))) (ai (ds_mpop (dp_fld (C:=c.Ways) (dp_var (pv 8)) ⟨T.o_.cls,T.p_⟩)) (ak (iB0 (tc2 fA ((dm T.o_.cls (eN T) hr dv (ae dv (ae dv (ae dv (d1 dv)))))) bE) (ak (aB bE))))))))))))))))) (ak (aB (c_eq ((dm0 T.f_.cls (eX T) hr dv)) (dx dv af) hr))))))
end
end Pg
end
section
set_option linter.all false
set_option Elab.async false
set_option maxRecDepth 100000
namespace Pg
open PySem PySem.Spec L2 Ew Mx
variable (c:CA)
theorem bO:big=100000:=rfl
@[simp] theorem cG (k:DSt→Option Res) (δ:DSt):Res.loop k (.nx δ)=k δ:=rfl
@[simp] theorem loop_rt (k:DSt→Option Res) (r:R):Res.loop k (.rt r)=some (.rt r):=rfl
section
variable {P:Type} [DecidableEq P] (A:Enc P)
def mv:FS:=sif ((fv (aj (ad oEq (ad oIx (ab 4) (ac (.int 0))) (ad oIx (ab 2) (ab 3)))) (aj (ad oNotIn (ad oIx (ab 4) (ac (.int 1))) (ab 2))))) (dg 2 (ad oIx (ab 4) (ac (.int 1)))) aD
theorem lc (hA:A.k≤15) {σ:Type} (es:σ→D) (pr:σ→P×P) (hes:∀ s,∃ rest,es s=.tup (A.e (pr s).1::A.e (pr s).2::rest)) {e0 e1:Option E} {k:Nat} {p:P} :
  ∀ (L:List σ) (f:List P) (x:Option E),f[k]?=some p→f.length+L.length≤1000→
  ∃ x',bu (au 4) mv (L.map es) [e0,e1,some (.ow (f.map A.e)),some (.sh (.int k)),x]=some (.nx [e0,e1,some (.ow ((gA (L.map pr) p f).map A.e)),some (.sh (.int k)),x'])
 | [],f,x,_,_=>⟨x,rfl⟩
 | s::L,f,x,hk,hl=>by
  obtain ⟨rest,er⟩:=hes s
  have hk2:(f.map A.e)[k]?=some (A.e p):=by rw [List.getElem?_map,hk];rfl
  have hb:mv [e0,e1,some (.ow (f.map A.e)),some (.sh (.int k)),some (.sh (es s))]=some (.nx [e0,e1,some (.ow ((dR p f (pr s)).map A.e)),some (.sh (.int k)),some (.sh (es s))]):=by
   unfold mv dR
   rw [er]
   simp only [dX,dtAnd_e,cg,jq,cK,kO,List.getElem?_cons_zero,List.getElem?_cons_succ,Option.bind_some,bn,mY,oIx_t,jK,di,cZ,io,hk2,Option.map_some,A.oEq hA,bool_bl,A.oNotIn hA]
   by_cases h1:(pr s).1=p
   ·
    by_cases h2:(pr s).2∈f
    ·
     simp [h1,h2]
    ·
     have:f.length≤big:=by rw [bO];simp at hl;omega
     simp [h1,h2,dg,cZ,this]
   ·
    simp [h1]
  obtain ⟨x',ih⟩:=lc hA es pr hes (e0:=e0) (e1:=e1) (k:=k) (p:=p) L (dR p f (pr s)) (some (.sh (es s))) (by
   unfold dR
   split
   ·
    rw [List.getElem?_append_left]
    ·
     exact hk
    ·
     exact (List.getElem?_eq_some_iff.mp hk).1
   ·
    exact hk) (by
   unfold dR
   simp at hl
   split
   ·
    simp;omega
   ·
    omega)
  refine ⟨x',?_⟩
  rw [List.map_cons]
  unfold bu
  have hg:au 4 (es s) [e0,e1,some (.ow (f.map A.e)),some (.sh (.int k)),x]=some [e0,e1,some (.ow (f.map A.e)),some (.sh (.int k)),some (.sh (es s))]:=rfl
  rw [hg]
  show (mv _).bind _=_
  rw [hb]
  exact ih
def whileR (n:Nat):FS:=cU (aj (ad oLt (ab 3) (aA bJ (aa (ab 2) ah)))) (ar (bV (aO (ab 1)) (au 4) mv) (j6 (·+·) 3 (ac (.int 1)))) n
theorem hZ (hA:A.k≤15) {σ:Type} (es:σ→D) (pr:σ→P×P) (hes:∀ s,∃ rest,es s=.tup (A.e (pr s).1::A.e (pr s).2::rest)) {e0:Option E} (L:List σ) (b:P) (hL:L.length≤100) :
  ∀ (n k:Nat) (f:List P) (x:Option E),RInv (L.map pr) b f→k≤f.length→L.length+2≤n+k→
  ∃ k' x',whileR n [e0,some (.sh (.lst (L.map es))),some (.ow (f.map A.e)),some (.sh (.int k)),x]=some (.nx [e0,some (.sh (.lst (L.map es))),some (.ow ((jP (L.map pr) n k f).map A.e)),k',x'])
 | 0,k,f,x,I,hk,hn=>by
  have h2:=List.Nodup.length_le_of_subset (l₂:=b::(L.map pr).map (·.2)) I.nd (by
   intro p hp
   rcases I.sub p hp with e | ⟨s,hs,e⟩
   ·
    simp [e]
   ·
    simp only [List.mem_cons,List.mem_map];exact .inr ⟨s,List.mem_map.1 hs,e⟩)
  simp at h2
  omega
 | n+1,k,f,x,I,hk,hn=>by
  have hfl:f.length≤L.length+1:=by
   have h2:=List.Nodup.length_le_of_subset (l₂:=b::(L.map pr).map (·.2)) I.nd (by
    intro p hp
    rcases I.sub p hp with e | ⟨s,hs,e⟩
    ·
     simp [e]
    ·
     simp only [List.mem_cons,List.mem_map];exact .inr ⟨s,List.mem_map.1 hs,e⟩)
   simpa using h2
  unfold whileR cU
  have ht:(aj (ad oLt (ab 3) (aA bJ (aa (ab 2) ah)))) [e0,some (.sh (.lst (L.map es))),some (.ow (f.map A.e)),some (.sh (.int k)),x]=some (decide (k<f.length)):=by
   simp
  rw [ht]
  simp only [Option.bind_some]
  cases hp:f[k]? with
  | none=>
   have:¬k<f.length:=by rw [List.getElem?_eq_none_iff] at hp;omega
   refine ⟨some (.sh (.int k)),x,?_⟩
   rw [if_neg (by simpa using this)]
   unfold jP
   rw [hp]
  | some p=>
   have hk2:k<f.length:=(List.getElem?_eq_some_iff.mp hp).1
   rw [if_pos (by simpa using hk2)]
   obtain ⟨x',hin⟩:=lc A hA es pr hes (e0:=e0) (e1:=some (.sh (.lst (L.map es)))) (k:=k) (p:=p) L f x hp (by omega)
   obtain ⟨i1,⟨e1,j1⟩,i3⟩:=jv (p:=p) (L.map pr) f (fun _ h=>h) I (List.mem_of_getElem? hp)
   have hbody:(ar (bV (aO (ab 1)) (au 4) mv) (j6 (·+·) 3 (ac (.int 1)))) [e0,some (.sh (.lst (L.map es))),some (.ow (f.map A.e)),some (.sh (.int k)),x] =
     some (.nx [e0,some (.sh (.lst (L.map es))),some (.ow ((gA (L.map pr) p f).map A.e)),some (.sh (.int ((k+1:Nat):Int))),x']):=by
    simp only [ii,bV,eu,cK,List.getElem?_cons_zero,List.getElem?_cons_succ,Option.bind_some,ej,bn]
    simp only [Bool.false_eq_true,if_false,Option.bind_some]
    rw [hin]
    simp [j6]
   rw [hbody]
   simp only [Option.bind_some,cG]
   obtain ⟨k',x'',ih⟩:=hZ hA es pr hes (e0:=e0) L b hL n (k+1) (gA (L.map pr) p f) x' i1 (by rw [j1];simp;omega) (by omega)
   refine ⟨k',x'',?_⟩
   have e2:jP (L.map pr) (n+1) k f=jP (L.map pr) n (k+1) (gA (L.map pr) p f):=by
    show (match f[k]? with | none=>f | some p=>_)=_
    rw [hp]
   rw [e2]
   exact ih
theorem pE (hA:A.k≤15) {σ:Type} (es:σ→D) (pr:σ→P×P) (hes:∀ s,∃ rest,es s=.tup (A.e (pr s).1::A.e (pr s).2::rest)) (L:List σ) (b:P) (hL:L.length≤90) :
  gY c [A.e b,.lst (L.map es)]=some (.lst ((reach 100 (L.map pr) b).map A.e)):=by
 obtain ⟨k',x',h⟩:=hZ A hA es pr hes (e0:=some (.sh (A.e b))) L b (by omega) 100 0 [b] none ⟨by simp,by simp,by simp,by intro Q h _ p hp;simp at hp;rw [hp];exact h⟩ (by simp) (by omega)
 have hF:mr c=ar (sset 2 (cA (aa (ab 0) ah))) (ar (sset 3 (ac (.int 0))) (ar (whileR 100) (fw 2))):=rfl
 have h0:[some (E.sh (A.e b)),some (.sh (.lst (L.map es))),some (.ow ([b].map A.e)),some (.sh (.int (0:Nat))),none]=[some (E.sh (A.e b)),some (.sh (.lst (L.map es))),some (.ow [A.e b]),some (.sh (.int 0)),none]:=rfl
 rw [h0] at h
 have h1:(1:Nat)≤big:=by rw [bO];omega
 simp only [gY,run_e,hF,ii,sset_e,dlst_e,aP,dQ,cK,kO,List.map_cons,List.map_nil,List.length_cons,List.length_nil,List.cons_append,List.nil_append,List.replicate,List.getElem?_cons_zero,List.getElem?_cons_succ,Option.bind_some,ma,n9,ej,bn,ent_fr,ent_sh,thn_nx]
 simp [h1]
 rw [h]
 simp [reach]
end
end Pg
end
section
set_option linter.all false
set_option Elab.async false
set_option maxRecDepth 100000
namespace Pg
open PySem PySem.Spec L2 Ew Mx
variable (c:CA)
section
variable {P N:Type} [DecidableEq P] [DecidableEq N] (A:Enc P) (B:Enc N)
def aG (w:Wlk P N):D:=.tup [.lst (w.1.map A.e),.lst (w.2.map B.e)]
theorem tri_k (hA:A.k≤9) (hB:B.k≤9):(A.tri B).k≤10:=by show max A.k B.k+1≤10;omega
theorem tri_e (s:P×P×N):(A.tri B).e s=.tup [A.e s.1,A.e s.2.1,B.e s.2.2]:=rfl
theorem bA {k:Nat} {F:FS} {ds:List D} {δ:DSt} {r:R} (h0:ds.map (fun d=>some (E.sh d))++List.replicate (k-ds.length) none=δ) (h:F δ=some (.rt r)) (hb:r.isBw=false):Ew.run k F ds=some r.view:=by
 unfold Ew.run
 rw [h0,h]
 simp [hb]
theorem bY {fi:DSt→Option (List D)} {g:GD} {t:DSt→Option Bool} {fe:FE} {m:Nat} {ix:List Nat} {δ:DSt} {items out:List D} (h1:fi δ=some items) (h2:items.length≤1000) (h3:cC g t fe (dIn m ix δ) items=some out) :
  bD fi g t fe m ix δ=some (.fr out):=by
 unfold bD
 rw [h1]
 show (if items.length≤big then _ else _)=_
 rw [if_pos (by rw [bO];omega),h3]
 rfl
theorem ld {m:List D→Option D} {f1:FE} {δ:DSt} {r1:R} {d:D} (h1:f1 δ=some r1) (hm:m [r1.view]=some d) (hb:r1.isBw=false∨d.flat=true):ao 1 m (aa f1 ah) δ=some (.sh d):=by
 simp only [iP,aP,dQ,h1,Option.bind_some,gS,List.map_cons,List.map_nil,hm]
 rw [if_pos]
 exact ⟨rfl,hb.imp (fun h=>by simp [h]) id⟩
theorem dl {m:List D→Option D} {f1 f2:FE} {δ:DSt} {r1 r2:R} {d:D} (h1:f1 δ=some r1) (h2:f2 δ=some r2) (hm:m [r1.view,r2.view]=some d) (hb:(r1.isBw=false∧r2.isBw=false)∨d.flat=true):ao 2 m (aa f1 (aa f2 ah)) δ=some (.sh d):=by
 simp only [iP,aP,dQ,h1,h2,Option.bind_some,gS,List.map_cons,List.map_nil,hm]
 rw [if_pos]
 exact ⟨rfl,hb.imp (fun h=>by simp [h]) id⟩
theorem mw {m:List D→Option D} {f1 f2 f3:FE} {δ:DSt} {r1 r2 r3:R} {d:D} (h1:f1 δ=some r1) (h2:f2 δ=some r2) (h3:f3 δ=some r3) (hm:m [r1.view,r2.view,r3.view]=some d) (hb:(r1.isBw=false∧r2.isBw=false∧r3.isBw=false)∨d.flat=true):ao 3 m (aa f1 (aa f2 (aa f3 ah))) δ=some (.sh d):=by
 simp only [iP,aP,dQ,h1,h2,h3,Option.bind_some,gS,List.map_cons,List.map_nil,hm]
 rw [if_pos]
 exact ⟨rfl,hb.imp (fun h=>by simp [h]) id⟩
theorem call4 {m:List D→Option D} {f1 f2 f3 f4:FE} {δ:DSt} {r1 r2 r3 r4:R} {d:D} (h1:f1 δ=some r1) (h2:f2 δ=some r2) (h3:f3 δ=some r3) (h4:f4 δ=some r4) (hm:m [r1.view,r2.view,r3.view,r4.view]=some d) (hb:(r1.isBw=false∧r2.isBw=false∧r3.isBw=false∧r4.isBw=false)∨d.flat=true):ao 4 m (aa f1 (aa f2 (aa f3 (aa f4 ah)))) δ=some (.sh d):=by
 simp only [iP,aP,dQ,h1,h2,h3,h4,Option.bind_some,gS,List.map_cons,List.map_nil,hm]
 rw [if_pos]
 exact ⟨rfl,hb.imp (fun h=>by simp [h]) id⟩
theorem bm {o:D→D→Option R} {fa fb:FE} {δ:DSt} {a b:R} {x:Option R} (h1:fa δ=some a) (h2:fb δ=some b) (h:o a.view b.view=x):ad o fa fb δ=x:=by
 rw [jq,h1,h2];exact h
theorem iq {f:FE} {δ:DSt} {r:R} (h:f δ=some r) (hb:r.isBw=false):aL f δ=some (.rt r):=by
 rw [sret_e,h];simp [hb]
theorem dF {i:Nat} {f:FE} {δ δ':DSt} {r:R} {en:E} (h:f δ=some r) (he:r.ent=some en) (hd:δ.set i (some en)=δ'):sset i f δ=some (.nx δ'):=by
 rw [sset_e,h,Option.bind_some,he,Option.bind_some,hd]
theorem seq1 {F G:FS} {δ δ1:DSt} {x:Option Res} (h:F δ=some (.nx δ1)) (h2:G δ1=x):ar F G δ=x:=by
 rw [ii,h,Option.bind_some,thn_nx,h2]
theorem jd (hB:B.k≤9) (L:ba P N) (ns:List N) (hL:L.length≤1000) :
  cO c [.lst (L.map (A.tri B).e),.lst (ns.map B.e)]=some (.lst ((bb L ns).map (A.tri B).e)):=by
 refine bA (r:=.fr _) rfl ?_ rfl
 have:=bY (fi:=aO (ab 0)) (g:=au 0) (t:=aj (ad oNotIn (ad oIx (ab 0) (ac (.int 2))) (ab 1))) (fe:=ab 0) (m:=1) (ix:=[1]) (δ:=[some (.sh (.lst (L.map (A.tri B).e))),some (.sh (.lst (ns.map B.e)))]) rfl (by simpa using hL) (bW _ _ _ _ (A.tri B).e (fun s=>decide (s.2.2∉ns)) (A.tri B).e L (fun s _=>by
  refine ⟨_,rfl,?_,fun _=>⟨.sh ((A.tri B).e s),rfl,rfl,rfl⟩⟩
  simp [dIn,tri_e,atI_2,B.oNotIn (show B.k≤15 by omega)]))
 show aL _ _=_
 rw [sret_e]
 erw [this]
 rfl
theorem eQ (s:P×P×N):bq c [(A.tri B).e s]=some ((A.tri B).e (turned s)):=by
 have:(3:Nat)≤big:=by rw [bO];omega
 simp [bq,hV,tri_e,di,cZ,atI_2,turned,this]
theorem cut1 (ds:List D):cutD ds (some 1) none=ds.tail:=by
 unfold cutD HT.sIx
 cases ds with
 | nil=>simp
 | cons d ds=>
  simp
theorem jT:∀ (ps:List P) (ns:List N),jO (ps.map A.e) ((ps.map A.e).tail) (ns.map B.e)=(al (ps,ns)).map (A.tri B).e
 | [],ns=>rfl
 | [p],ns=>by cases ns <;> rfl
 | p::q::ps,[]=>by simp [jO,al]
 | p::q::ps,n::ns=>by
  rw [ng (q:=q) rfl]
  have ih:=jT (q::ps) ns
  simp only [List.map_cons,←ih]
  rfl
theorem jU (w:Wlk P N) (h:w.1.length=w.2.length+1):bX c [aG A B w]=some (.lst ((al w).map (A.tri B).e)):=by
 have hz:=jT A B w.1 w.2
 simp [bX,k9,aG,di,cZ,dP,fZ,gt,cut1,gU,h]
 simpa using hz
theorem gZ (xs ys:List D) (h:xs.length+ys.length≤1000):aZ (.lst xs) (.lst ys)=some (.fr (xs++ys)):=by
 show (if xs.length+ys.length≤big then _ else _)=_
 rw [if_pos (by rw [bO];omega)]
theorem h7 (hB:B.k≤9) (L gone:ba P N) (hL:L.length≤100) (hG:gone.length≤100) :
  cw c [.lst (L.map (A.tri B).e),.lst (gone.map (A.tri B).e)]=some (.lst ((az L gone).map (A.tri B).e)):=by
 refine bA (r:=.fr _) rfl ?_ rfl
 have c1:=bY (fi:=aO (ab 1)) (g:=au 0) (t:=cJ) (fe:=ad oIx (ab 0) (ac (.int 2))) (m:=1) (ix:=[]) (δ:=[some (.sh (.lst (L.map (A.tri B).e))),some (.sh (.lst (gone.map (A.tri B).e)))]) rfl (by simp;omega) (bW _ _ _ _ (A.tri B).e (fun _=>true) (fun s=>B.e s.2.2) gone (fun s _=>by
  refine ⟨_,rfl,rfl,fun _=>⟨.sh (B.e s.2.2),?_,rfl,rfl⟩⟩
  simp [dIn,tri_e,atI_2]))
 have c2:=bY (fi:=aO (ab 1)) (g:=au 0) (t:=cJ) (fe:=ao 1 (bq c) (aa (ab 0) ah)) (m:=1) (ix:=[]) (δ:=[some (.sh (.lst (L.map (A.tri B).e))),some (.sh (.lst (gone.map (A.tri B).e)))]) rfl (by simp;omega) (bW _ _ _ _ (A.tri B).e (fun _=>true) (fun s=>(A.tri B).e (turned s)) gone (fun s _=>by
  refine ⟨_,rfl,rfl,fun _=>⟨.sh ((A.tri B).e (turned s)),?_,rfl,rfl⟩⟩
  simp [dIn,eQ]))
 have hs:=jd c A B hB L (gone.map bR) (by omega)
 have e1:(gone.filter fun _=>true)=gone:=by simp
 rw [e1] at c1 c2
 have e2:gone.map (fun s=>B.e s.2.2)=(gone.map bR).map B.e:=by rw [List.map_map];rfl
 rw [e2] at c1
 have hlen:(bb L (gone.map bR)).length≤L.length:=iZ
 refine iq (bm (dl (r1:=.sh _) (r2:=.fr _) rfl c1 hs (.inl ⟨rfl,rfl⟩)) c2 ?_) rfl
 have:=gZ ((bb L (gone.map bR)).map (A.tri B).e) (gone.map (fun s=>(A.tri B).e (turned s))) (by simp;omega)
 refine this.trans ?_
 unfold az
 rw [List.map_append,List.map_map]
 rfl
theorem oR (hA:A.k≤9) (hB:B.k≤9) (gone:ba P N) (w:Wlk P N) (hG:gone.length≤100) (hw:w.2.length≤100) (h:w.1.length=w.2.length+1) :
  fU c [.lst (gone.map (A.tri B).e),aG A B w]=some (.lst ((dH gone w).map (A.tri B).e)):=by
 have hT:=tri_k A B hA hB
 have hsl:(al w).length≤100:=by unfold al;simp;omega
 refine bA (r:=.fr _) rfl ?_ rfl
 have c1:=bY (fi:=aO (ab 0)) (g:=au 0) (t:=aj (ad oNotIn (ao 1 (bq c) (aa (ab 0) ah)) (ab 1))) (fe:=ab 0) (m:=1) (ix:=[2]) (δ:=[some (.sh (.lst (gone.map (A.tri B).e))),some (.sh (aG A B w)),some (.sh (.lst ((al w).map (A.tri B).e))),none]) rfl (by simp;omega) (bW _ _ _ _ (A.tri B).e (fun s=>decide (turned s∉al w)) (A.tri B).e gone (fun s _=>by
  refine ⟨_,rfl,?_,fun _=>⟨.sh ((A.tri B).e s),rfl,rfl,rfl⟩⟩
  simp [dIn,eQ,(A.tri B).oNotIn (show (A.tri B).k≤15 by omega)]))
 have c2:=fun K=>bY (fi:=aO (ab 2)) (g:=au 0) (t:=aj (ad oNotIn (ao 1 (bq c) (aa (ab 0) ah)) (ab 1))) (fe:=ab 0) (m:=1) (ix:=[0]) (δ:=[some (.sh (.lst (gone.map (A.tri B).e))),some (.sh (aG A B w)),some (.sh (.lst ((al w).map (A.tri B).e))),K]) rfl (by simp;omega) (bW _ _ _ _ (A.tri B).e (fun s=>decide (turned s∉gone)) (A.tri B).e (al w) (fun s _=>by
  refine ⟨_,rfl,?_,fun _=>⟨.sh ((A.tri B).e s),rfl,rfl,rfl⟩⟩
  simp [dIn,eQ,(A.tri B).oNotIn (show (A.tri B).k≤15 by omega)]))
 have hs:=jU c A B w h
 have l1:((gone.filter fun s=>decide (turned s∉al w))).length≤gone.length:=List.length_filter_le _ _
 have l2:(((al w).filter fun s=>decide (turned s∉gone))).length≤(al w).length:=List.length_filter_le _ _
 refine seq1 (dF (ld (r1:=.sh _) rfl hs (.inl rfl)) rfl rfl) ?_
 refine seq1 (dF c1 rfl rfl) ?_
 refine iq (bm (a:=.bw _) rfl (c2 _) ?_) rfl
 refine (gZ _ _ (by simp only [List.length_map];omega)).trans ?_
 unfold dH
 rw [List.map_append]
end
end Pg
end
section
set_option linter.all false
set_option Elab.async false
set_option maxRecDepth 100000
namespace Pg
open PySem PySem.Spec L2 Ew Mx
variable (c:CA)
section
variable {P N:Type} [DecidableEq P] [DecidableEq N] (A:Enc P) (B:Enc N)
def lf:FS:=sif ((fv (aj (ad oEq (ad oIx (ab 7) (ac (.int 0))) (ad oIx (ab 6) (dun e8 (ac (.int 1)))))) (aj (ad oNotIn (ad oIx (ab 7) (ac (.int 1))) (ab 4))))) (ar (dg 4 (ad oIx (ab 7) (ac (.int 1)))) (dg 3 (b6 (aa (ad aZ (ab 6) (cA (aa (ad oIx (ab 7) (ac (.int 1))) ah))) (aa (ad aZ (ad oIx (ad oIx (ab 3) (ab 5)) (ac (.int 1))) (cA (aa (ad oIx (ab 7) (ac (.int 2))) ah))) ah))))) aD
theorem nB (i:Int):e8 (.int i)=some (.sh (.int (-i))):=rfl
theorem walk_body (hA:A.k≤9) (hB:B.k≤9) {e0 e1 e2:Option E} {k:Nat} {w:Wlk P N} {b:P} (hb:w.1.getLast?=some b) (s:P×P×N) (q:List (Wlk P N)×List P) (hk:q.1[k]?=some w)
  (l1:q.1.length≤900) (l2:q.2.length≤900) (l3:w.1.length≤900) (l4:w.2.length≤900) :
  lf [e0,e1,e2,some (.ow (q.1.map (aG A B))),some (.ow (q.2.map A.e)),some (.sh (.int k)),some (.sh (.lst (w.1.map A.e))),some (.sh ((A.tri B).e s))] =
   some (.nx [e0,e1,e2,some (.ow ((scan1 w q s).1.map (aG A B))),some (.ow ((scan1 w q s).2.map A.e)),some (.sh (.int k)),some (.sh (.lst (w.1.map A.e))),some (.sh ((A.tri B).e s))]):=by
 have hk2:(q.1.map (aG A B))[k]?=some (aG A B w):=by rw [List.getElem?_map,hk];rfl
 have hlast:(w.1.map A.e).getLast?=some (A.e b):=by rw [getLast?_map',hb];rfl
 have hA':A.k≤15:=by omega
 have b1:(1:Nat)≤big:=by rw [bO];omega
 have b2:(2:Nat)≤big:=by rw [bO];omega
 have b3:q.2.length≤big:=by rw [bO];omega
 have b4:q.1.length≤big:=by rw [bO];omega
 unfold lf scan1
 rw [tri_e]
 simp only [dX,dtAnd_e,cg,jq,dun_e,cK,kO,List.getElem?_cons_zero,List.getElem?_cons_succ,Option.bind_some,bn,mY,oIx_t,jK,di,cZ,io,nB,kC,hlast,Option.map_some,A.oEq hA',bool_bl,A.oNotIn hA']
 by_cases h1:s.1=b
 ·
  by_cases h2:s.2.1∈q.2
  ·
   simp [h1,h2,hb]
  ·
   have a1:=gZ (w.1.map A.e) [A.e s.2.1] (by simp;omega)
   have a2:=gZ (w.2.map B.e) [B.e s.2.2] (by simp;omega)
   simp [h1,h2,hb,dg,cZ,atI_2,io,hk2,b1,b2,b3,b4,aG,a1,a2]
 ·
  have h3:¬b=s.1:=fun e=>h1 e.symm
  simp [h1,hb,h3]
theorem my (w:Wlk P N) (q:List (Wlk P N)×List P) (s:P×P×N):(scan1 w q s).1.length≤q.1.length+1∧(scan1 w q s).2.length≤q.2.length+1:=by
 unfold scan1
 split
 ·
  simp
 ·
  constructor <;> omega
theorem walk_in (hA:A.k≤9) (hB:B.k≤9) {e0 e1 e2:Option E} {k:Nat} {w:Wlk P N} {b:P} (hb:w.1.getLast?=some b) (l3:w.1.length≤900) (l4:w.2.length≤900) :
  ∀ (L:ba P N) (q:List (Wlk P N)×List P) (x:Option E),q.1[k]?=some w→q.1.length+L.length≤900→q.2.length+L.length≤900→
  ∃ x',bu (au 7) lf (L.map (A.tri B).e) [e0,e1,e2,some (.ow (q.1.map (aG A B))),some (.ow (q.2.map A.e)),some (.sh (.int k)),some (.sh (.lst (w.1.map A.e))),x] =
   some (.nx [e0,e1,e2,some (.ow ((scan L w q).1.map (aG A B))),some (.ow ((scan L w q).2.map A.e)),some (.sh (.int k)),some (.sh (.lst (w.1.map A.e))),x'])
 | [],q,x,_,_,_=>⟨x,rfl⟩
 | s::L,q,x,hk,h1,h2=>by
  simp at h1 h2
  have hbd:=walk_body A B hA hB (e0:=e0) (e1:=e1) (e2:=e2) hb s q hk (by omega) (by omega) l3 l4
  obtain ⟨x',ih⟩:=walk_in hA hB (e0:=e0) (e1:=e1) (e2:=e2) hb l3 l4 L (scan1 w q s) (some (.sh ((A.tri B).e s))) (by
   unfold scan1
   split
   ·
    rw [List.getElem?_append_left]
    ·
     exact hk
    ·
     exact (List.getElem?_eq_some_iff.mp hk).1
   ·
    exact hk) (by have:=my w q s;omega) (by have:=my w q s;omega)
  refine ⟨x',?_⟩
  rw [List.map_cons]
  unfold bu
  have hg:au 7 ((A.tri B).e s) [e0,e1,e2,some (.ow (q.1.map (aG A B))),some (.ow (q.2.map A.e)),some (.sh (.int k)),some (.sh (.lst (w.1.map A.e))),x]=some [e0,e1,e2,some (.ow (q.1.map (aG A B))),some (.ow (q.2.map A.e)),some (.sh (.int k)),some (.sh (.lst (w.1.map A.e))),some (.sh ((A.tri B).e s))]:=rfl
  rw [hg]
  show (lf _).bind _=_
  rw [hbd]
  exact ih
def fW (n:Nat):FS:=cU (aj (ad oLt (ab 5) (aA bJ (aa (ab 3) ah)))) (ar (sset 6 (ad oIx (ad oIx (ab 3) (ab 5)) (ac (.int 0)))) (ar (sif (aj (ad oIn (ad oIx (ab 6) (dun e8 (ac (.int 1)))) (ab 2))) (aL (ad oIx (ab 3) (ab 5))) aD) (ar (bV (aO (ab 0)) (au 7) lf) (j6 (·+·) 5 (ac (.int 1)))))) n
def outW:Option (Wlk P N)→D
 | none=>.non
 | some w=>aG A B w
theorem lg (hA:A.k≤9) (hB:B.k≤9) {e1:Option E} (L:ba P N) (a:P) (ends:List P) (hL:L.length≤300) :
  ∀ (n k:Nat) (q:List (Wlk P N)×List P) (x6 x7:Option E),Inv L L ends a q→k≤q.1.length→L.length+2≤n+k→
  match bfs L ends n k q with
  | some w=>fW n [some (.sh (.lst (L.map (A.tri B).e))),e1,some (.sh (.lst (ends.map A.e))),some (.ow (q.1.map (aG A B))),some (.ow (q.2.map A.e)),some (.sh (.int k)),x6,x7]=some (.rt (.sh (aG A B w)))
  | none=>∃ δ,fW n [some (.sh (.lst (L.map (A.tri B).e))),e1,some (.sh (.lst (ends.map A.e))),some (.ow (q.1.map (aG A B))),some (.ow (q.2.map A.e)),some (.sh (.int k)),x6,x7]=some (.nx δ)
 | 0,k,q,x6,x7,I,hk,hn=>by have:=m8 I;omega
 | n+1,k,q,x6,x7,I,hk,hn=>by
  have hql:=m8 I
  have hq2:q.2.length=q.1.length:=by have:=congrArg List.length I.ls;simpa using this.symm
  have ht:(aj (ad oLt (ab 5) (aA bJ (aa (ab 3) ah)))) [some (.sh (.lst (L.map (A.tri B).e))),e1,some (.sh (.lst (ends.map A.e))),some (.ow (q.1.map (aG A B))),some (.ow (q.2.map A.e)),some (.sh (.int k)),x6,x7]=some (decide (k<q.1.length)):=by
   simp
  unfold bfs
  cases hp:q.1[k]? with
  | none=>
   have:¬k<q.1.length:=by rw [List.getElem?_eq_none_iff] at hp;omega
   refine ⟨[some (.sh (.lst (L.map (A.tri B).e))),e1,some (.sh (.lst (ends.map A.e))),some (.ow (q.1.map (aG A B))),some (.ow (q.2.map A.e)),some (.sh (.int k)),x6,x7],?_⟩
   unfold fW cU
   rw [ht]
   simp only [Option.bind_some]
   rw [if_neg (by simpa using this)]
  | some w=>
   have hk2:k<q.1.length:=(List.getElem?_eq_some_iff.mp hp).1
   obtain ⟨b,sw,hm⟩:=I.ok w (List.mem_of_getElem? hp)
   have hlast:=sw.last
   have hwl:w.1.length≤q.2.length:=List.Nodup.length_le_of_subset sw.nodup hm
   have hwl2:=sw.len
   have hk3:(q.1.map (aG A B))[k]?=some (aG A B w):=by rw [List.getElem?_map,hp];rfl
   have hl3:(w.1.map A.e).getLast?=some (A.e b):=by rw [getLast?_map',hlast];rfl
   have s1:sset 6 (ad oIx (ad oIx (ab 3) (ab 5)) (ac (.int 0))) [some (.sh (.lst (L.map (A.tri B).e))),e1,some (.sh (.lst (ends.map A.e))),some (.ow (q.1.map (aG A B))),some (.ow (q.2.map A.e)),some (.sh (.int k)),x6,x7] =
     some (.nx [some (.sh (.lst (L.map (A.tri B).e))),e1,some (.sh (.lst (ends.map A.e))),some (.ow (q.1.map (aG A B))),some (.ow (q.2.map A.e)),some (.sh (.int k)),some (.sh (.lst (w.1.map A.e))),x7]):=by
    simp [io,hk3,aG,di]
   have t2:(aj (ad oIn (ad oIx (ab 6) (dun e8 (ac (.int 1)))) (ab 2))) [some (.sh (.lst (L.map (A.tri B).e))),e1,some (.sh (.lst (ends.map A.e))),some (.ow (q.1.map (aG A B))),some (.ow (q.2.map A.e)),some (.sh (.int k)),some (.sh (.lst (w.1.map A.e))),x7]=some (decide (b∈ends)):=by
    simp [nB,kC,hlast,A.oIn (show A.k≤15 by omega)]
   have hli:il ends w=decide (b∈ends):=by simp [il,hlast]
   simp only [hli]
   by_cases hbe:b∈ends
   ·
    rw [if_pos (by simpa using hbe)]
    show fW (n+1) _=_
    unfold fW cU
    rw [ht]
    simp only [Option.bind_some]
    rw [if_pos (by simpa using hk2)]
    have:(ar (sset 6 (ad oIx (ad oIx (ab 3) (ab 5)) (ac (.int 0)))) (ar (sif (aj (ad oIn (ad oIx (ab 6) (dun e8 (ac (.int 1)))) (ab 2))) (aL (ad oIx (ab 3) (ab 5))) aD) (ar (bV (aO (ab 0)) (au 7) lf) (j6 (·+·) 5 (ac (.int 1)))))) [some (.sh (.lst (L.map (A.tri B).e))),e1,some (.sh (.lst (ends.map A.e))),some (.ow (q.1.map (aG A B))),some (.ow (q.2.map A.e)),some (.sh (.int k)),x6,x7]=some (.rt (.sh (aG A B w))):=by
     refine seq1 s1 ?_
     rw [ii,dX,t2]
     simp [hbe,io,hk3]
    rw [this]
    rfl
   ·
    rw [if_neg (by simpa using hbe)]
    obtain ⟨i1,⟨e',j1⟩,⟨e'',j2⟩,i4⟩:=kW sw hbe L q (fun _ h=>h) I hm
    obtain ⟨x',hin⟩:=walk_in A B hA hB (e0:=some (.sh (.lst (L.map (A.tri B).e)))) (e1:=e1) (e2:=some (.sh (.lst (ends.map A.e)))) hlast (by omega) (by omega) L q x7 hp (by omega) (by omega)
    have hbody:(ar (sset 6 (ad oIx (ad oIx (ab 3) (ab 5)) (ac (.int 0)))) (ar (sif (aj (ad oIn (ad oIx (ab 6) (dun e8 (ac (.int 1)))) (ab 2))) (aL (ad oIx (ab 3) (ab 5))) aD) (ar (bV (aO (ab 0)) (au 7) lf) (j6 (·+·) 5 (ac (.int 1)))))) [some (.sh (.lst (L.map (A.tri B).e))),e1,some (.sh (.lst (ends.map A.e))),some (.ow (q.1.map (aG A B))),some (.ow (q.2.map A.e)),some (.sh (.int k)),x6,x7] =
      some (.nx [some (.sh (.lst (L.map (A.tri B).e))),e1,some (.sh (.lst (ends.map A.e))),some (.ow ((scan L w q).1.map (aG A B))),some (.ow ((scan L w q).2.map A.e)),some (.sh (.int ((k+1:Nat):Int))),some (.sh (.lst (w.1.map A.e))),x']):=by
     refine seq1 s1 ?_
     refine seq1 (δ1:=[some (.sh (.lst (L.map (A.tri B).e))),e1,some (.sh (.lst (ends.map A.e))),some (.ow (q.1.map (aG A B))),some (.ow (q.2.map A.e)),some (.sh (.int k)),some (.sh (.lst (w.1.map A.e))),x7]) ?_ ?_
     ·
      rw [dX,t2]
      simp [hbe]
     ·
      refine seq1 (δ1:=[some (.sh (.lst (L.map (A.tri B).e))),e1,some (.sh (.lst (ends.map A.e))),some (.ow ((scan L w q).1.map (aG A B))),some (.ow ((scan L w q).2.map A.e)),some (.sh (.int k)),some (.sh (.lst (w.1.map A.e))),x']) ?_ ?_
      ·
       simp only [bV,eu,cK,List.getElem?_cons_zero,List.getElem?_cons_succ,Option.bind_some,ej,bn]
       simp only [Bool.false_eq_true,if_false,Option.bind_some]
       exact hin
      ·
       simp [j6]
    have ih:=lg hA hB (e1:=e1) L a ends hL n (k+1) (scan L w q) (some (.sh (.lst (w.1.map A.e)))) x' i1 (by rw [j1];simp;omega) (by omega)
    have hw:fW (n+1) [some (.sh (.lst (L.map (A.tri B).e))),e1,some (.sh (.lst (ends.map A.e))),some (.ow (q.1.map (aG A B))),some (.ow (q.2.map A.e)),some (.sh (.int k)),x6,x7] =
      fW n [some (.sh (.lst (L.map (A.tri B).e))),e1,some (.sh (.lst (ends.map A.e))),some (.ow ((scan L w q).1.map (aG A B))),some (.ow ((scan L w q).2.map A.e)),some (.sh (.int ((k+1:Nat):Int))),some (.sh (.lst (w.1.map A.e))),x']:=by
     show cU _ _ (n+1) _=_
     unfold cU
     rw [ht]
     simp only [Option.bind_some]
     rw [if_pos (by simpa using hk2),hbody]
     rfl
    rw [hw]
    exact ih
theorem dG (hA:A.k≤9) (hB:B.k≤9) (L:ba P N) (a:P) (ends:List P) (hL:L.length≤90) :
  a9 c [.lst (L.map (A.tri B).e),A.e a,.lst (ends.map A.e)]=some (outW A B (cX 100 L a ends)):=by
 have h:=lg A B hA hB (e1:=some (.sh (A.e a))) L a ends (by omega) 100 0 ([([a],[])],[a]) none none ⟨by simp,by simp,by intro w hw;simp at hw;subst hw;exact ⟨a,.nil,by simp⟩,by simp,by simp⟩ (by simp) (by omega)
 have hF:dW c=ar (sset 3 (cA (aa (b6 (aa (cA (aa (ab 1) ah)) (aa (cA ah) ah))) ah))) (ar (sset 4 (cA (aa (ab 1) ah))) (ar (sset 5 (ac (.int 0))) (ar (fW 100) (aL (ac .non))))):=rfl
 have b0:(0:Nat)≤big:=by omega
 have b1:(1:Nat)≤big:=by rw [bO];omega
 have b2:(2:Nat)≤big:=by rw [bO];omega
 have hst:∀ x,(fW 100 [some (.sh (.lst (L.map (A.tri B).e))),some (.sh (A.e a)),some (.sh (.lst (ends.map A.e))),some (.ow [aG A B ([a],[])]),some (.ow [A.e a]),some (.sh (.int 0)),none,none])=x→
   dW c [some (.sh (.lst (L.map (A.tri B).e))),some (.sh (A.e a)),some (.sh (.lst (ends.map A.e))),none,none,none,none,none]=x.bind (Res.thn (aL (ac .non))):=by
  intro x hx
  rw [hF]
  refine seq1 (δ1:=[some (.sh (.lst (L.map (A.tri B).e))),some (.sh (A.e a)),some (.sh (.lst (ends.map A.e))),some (.ow [aG A B ([a],[])]),none,none,none,none]) (by simp [b1,b2,aG]) ?_
  refine seq1 (δ1:=[some (.sh (.lst (L.map (A.tri B).e))),some (.sh (A.e a)),some (.sh (.lst (ends.map A.e))),some (.ow [aG A B ([a],[])]),some (.ow [A.e a]),none,none,none]) (by simp [b1]) ?_
  refine seq1 (δ1:=[some (.sh (.lst (L.map (A.tri B).e))),some (.sh (A.e a)),some (.sh (.lst (ends.map A.e))),some (.ow [aG A B ([a],[])]),some (.ow [A.e a]),some (.sh (.int 0)),none,none]) (by simp) ?_
  rw [ii,hx]
 unfold cX
 cases hb:bfs L ends 100 0 ([([a],[])],[a]) with
 | some w=>
  rw [hb] at h
  have:=hst _ h
  exact bA (r:=.sh (aG A B w)) rfl this rfl
 | none=>
  rw [hb] at h
  obtain ⟨δ,h⟩:=h
  have:=hst _ h
  exact bA (r:=.sh .non) rfl this rfl
end
end Pg
end
section
set_option linter.all false
set_option Elab.async false
set_option maxRecDepth 100000
namespace Pg
open PySem PySem.Spec L2 Ew Mx
variable (c:CA)
section
variable {P N:Type} [DecidableEq P] [DecidableEq N] (A:Enc P) (B:Enc N)
theorem rng1_eq {i:Nat} {δ:DSt} {j:Int} (h:δ[i]?=some (some (.sh (.int j)))) (h1:0≤j) (h2:j≤1000000):(eS (aa (ab i) ah)) δ=some ((List.range j.toNat).map fun k=>D.int (0+((k:Nat):Int))):=by
 have hc:-(2 ^ 62:Int)≤j∧j<2 ^ 62:=⟨Int.le_trans (by decide) h1,Int.lt_of_le_of_lt h2 (by decide)⟩
 unfold eS
 simp only [aP,dQ,cK,h,Option.bind_some]
 rw [if_pos hc]
def bodyM:FS:=ar (dw 4 (sset 6 (ao 3 (a9 c) (aa (ao 2 (cw c) (aa (ab 0) (aa (ab 4) ah))) (aa (ab 1) (aa (cA (aa (ab 2) ah)) ah)))))) (ar (sif (aj (ad oIs (ab 6) (ac .non))) (fw 4) aD) (dw 4 (sset 4 (ao 2 (fU c) (aa (ab 4) (aa (ab 6) ah))))))
theorem lst1 {f:FE} {δ:DSt} {r:R} (h:f δ=some r) (hb:r.isBw=false):cA (aa f ah) δ=some (.fr [r.view]):=by
 have b1:(1:Nat)≤big:=by rw [bO];omega
 simp [h,hb,b1]
theorem mz (hA:A.k≤9) (hB:B.k≤9) {L:ba P N} {b e:P} {e3:Option E} (U:Uniq L) (hL:L.length≤40):∀ (ds:List D) (k:Nat) (G:ba P N) (x4 x5 x6:Option E),Flow L b e k G→
  (x4=some (.ow (G.map (A.tri B).e))∨x4=some (.sh (.lst (G.map (A.tri B).e))))→
  ∃ r:R,r.isBw=false∧r.view=.lst ((bg 100 L b e ds.length G).map (A.tri B).e)∧
   (bu (au 5) (bodyM c) ds [some (.sh (.lst (L.map (A.tri B).e))),some (.sh (A.e b)),some (.sh (A.e e)),e3,x4,x5,x6]).bind (Res.thn (fw 4))=some (.rt r)
 | [],k,G,x4,x5,x6,F,h4=>by
  rcases h4 with rfl | rfl
  ·
   exact ⟨.fr (G.map (A.tri B).e),rfl,rfl,rfl⟩
  ·
   exact ⟨.sh (.lst (G.map (A.tri B).e)),rfl,rfl,rfl⟩
 | d::ds,k,G,x4,x5,x6,F,h4=>by
  have hGL:=gw U F
  have hfl:=ou hGL
  have hb:=gV (L:=az L G) (a:=b) (ends:=[e]) (n:=100) (by omega)
  have hfr:∀ x5 x6,frz 4 [some (E.sh (.lst (L.map (A.tri B).e))),some (.sh (A.e b)),some (.sh (A.e e)),e3,x4,x5,x6]=[some (.sh (.lst (L.map (A.tri B).e))),some (.sh (A.e b)),some (.sh (A.e e)),e3,some (.sh (.lst (G.map (A.tri B).e))),x5,x6]:=by
   intro x5 x6
   rcases h4 with rfl | rfl <;> rfl
  have hfs:=h7 c A B hB L G (by omega) (by omega)
  have hsw:=dG c A B hA hB (az L G) b [e] (by omega)
  have s1:dw 4 (sset 6 (ao 3 (a9 c) (aa (ao 2 (cw c) (aa (ab 0) (aa (ab 4) ah))) (aa (ab 1) (aa (cA (aa (ab 2) ah)) ah))))) [some (.sh (.lst (L.map (A.tri B).e))),some (.sh (A.e b)),some (.sh (A.e e)),e3,x4,some (.sh d),x6] =
    some (.nx [some (.sh (.lst (L.map (A.tri B).e))),some (.sh (A.e b)),some (.sh (A.e e)),e3,some (.sh (.lst (G.map (A.tri B).e))),some (.sh d),some (.sh (outW A B (cX 100 (az L G) b [e])))]):=by
   rw [ff,hfr]
   refine dF (mw (r1:=.sh _) (r2:=.sh (A.e b)) (r3:=.fr [A.e e]) (dl (r1:=.sh _) (r2:=.sh _) rfl rfl hfs (.inl ⟨rfl,rfl⟩)) rfl (lst1 (r:=.sh (A.e e)) rfl rfl) hsw (.inl ⟨rfl,rfl,rfl⟩)) rfl rfl
  have hg:au 5 d [some (E.sh (.lst (L.map (A.tri B).e))),some (.sh (A.e b)),some (.sh (A.e e)),e3,x4,x5,x6]=some [some (.sh (.lst (L.map (A.tri B).e))),some (.sh (A.e b)),some (.sh (A.e e)),e3,x4,some (.sh d),x6]:=rfl
  show ∃ r:R,r.isBw=false∧r.view=.lst ((bg 100 L b e (ds.length+1) G).map (A.tri B).e)∧_
  unfold bg bu
  rw [hg]
  simp only [Option.bind_some]
  cases hq:cX 100 (az L G) b [e] with
  | none=>
   rw [hq] at s1
   refine ⟨.sh (.lst (G.map (A.tri B).e)),rfl,rfl,?_⟩
   have:bodyM c [some (.sh (.lst (L.map (A.tri B).e))),some (.sh (A.e b)),some (.sh (A.e e)),e3,x4,some (.sh d),x6]=some (.rt (.sh (.lst (G.map (A.tri B).e)))):=by
    refine seq1 s1 ?_
    rfl
   rw [this]
   rfl
  | some w=>
   rw [hq] at s1 hb
   obtain ⟨e',he',sw⟩:=hb
   simp at he'
   subst he'
   have hns:=sw.namesNodup (mq U F.sub)
   have hwl:w.2.length≤100:=by
    have h1:=List.Nodup.length_le_of_subset sw.stepsNodup (l₂:=az L G) (fun s hs=>(sw.step s hs).1)
    have h2:=congrArg List.length sw.names
    simp at h2
    omega
   have hgt:=oR c A B hA hB G w (by omega) hwl sw.len
   have hbody:bodyM c [some (.sh (.lst (L.map (A.tri B).e))),some (.sh (A.e b)),some (.sh (A.e e')),e3,x4,some (.sh d),x6] =
     some (.nx [some (.sh (.lst (L.map (A.tri B).e))),some (.sh (A.e b)),some (.sh (A.e e')),e3,some (.sh (.lst ((dH G w).map (A.tri B).e))),some (.sh d),some (.sh (aG A B w))]):=by
    refine seq1 s1 ?_
    refine seq1 (δ1:=[some (.sh (.lst (L.map (A.tri B).e))),some (.sh (A.e b)),some (.sh (A.e e')),e3,some (.sh (.lst (G.map (A.tri B).e))),some (.sh d),some (.sh (aG A B w))]) rfl ?_
    rw [ff]
    refine dF (dl (r1:=.sh _) (r2:=.sh (aG A B w)) rfl rfl hgt (.inl ⟨rfl,rfl⟩)) rfl rfl
   rw [hbody]
   simp only [Option.bind_some,cG]
   exact mz hA hB U hL ds (k+1) (dH G w) _ _ _ (F.step U sw) (.inr rfl)
theorem nC (hA:A.k≤9) (hB:B.k≤9) {L:ba P N} {b e:P} (U:Uniq L) (hL:L.length≤40) (many:Nat) (hm:many≤1000) :
  gF c [.lst (L.map (A.tri B).e),A.e b,A.e e,.int many]=some (.lst ((bg 100 L b e many []).map (A.tri B).e)):=by
 obtain ⟨r,r1,r2,h⟩:=mz c A B hA hB (L:=L) (b:=b) (e:=e) (e3:=some (.sh (.int many))) U hL ((List.range many).map fun k=>D.int (0+(k:Nat))) 0 [] (some (.ow [])) none none .zero (.inl rfl)
 have hl:((List.range many).map fun k=>D.int (0+((k:Nat):Int))).length=many:=by simp
 rw [hl] at r2
 rw [←r2]
 refine bA rfl ?_ r1
 show (ar _ (ar (bV _ _ (bodyM c)) (fw 4))) _=_
 refine seq1 (δ1:=[some (.sh (.lst (L.map (A.tri B).e))),some (.sh (A.e b)),some (.sh (A.e e)),some (.sh (.int many)),some (.ow []),none,none]) (by simp) ?_
 rw [ii]
 have hi:=rng1_eq (i:=3) (δ:=[some (.sh (.lst (L.map (A.tri B).e))),some (.sh (A.e b)),some (.sh (A.e e)),some (.sh (.int many)),some (.ow []),none,none]) (j:=many) rfl (by omega) (by omega)
 have hj:((many:Int)).toNat=many:=by simp
 rw [hj] at hi
 unfold bV
 rw [hi]
 exact h
theorem drain_eq (hA:A.k≤9) (hB:B.k≤9) {L:ba P N} {b e:P} {e0 e3:Option E} (hbe:b≠e) (U:Uniq L) (hL:L.length≤40):∀ (f k:Nat) (G:ba P N) (ws:List (Wlk P N)),Flow L b e k G→k<f→ws.length+k≤500→
  ∃ x4 x6,cU (aj (ad cW (ab 6) (ac .non))) (ar (dg 5 (ab 6)) (ar (sset 4 (ao 2 (cO c) (aa (ab 4) (aa (ad oIx (ab 6) (ac (.int 1))) ah)))) (sset 6 (ao 3 (a9 c) (aa (ab 4) (aa (ab 1) (aa (cA (aa (ab 2) ah)) ah))))))) f
   [e0,some (.sh (A.e b)),some (.sh (A.e e)),e3,some (.sh (.lst (G.map (A.tri B).e))),some (.ow (ws.map (aG A B))),some (.sh (outW A B (cX 100 G b [e])))] =
   some (.nx [e0,some (.sh (A.e b)),some (.sh (A.e e)),e3,x4,some (.ow ((drain 100 b e f G (cX 100 G b [e]) ws).map (aG A B))),x6])
 | 0,k,G,ws,_,hk,_=>by omega
 | f+1,k,G,ws,F,hk,hw=>by
  have hGL:=gw U F
  have hb:=gV (L:=G) (a:=b) (ends:=[e]) (n:=100) (by omega)
  cases hq:cX 100 G b [e] with
  | none=>exact ⟨_,_,rfl⟩
  | some w=>
   rw [hq] at hb
   obtain ⟨e',he',sw⟩:=hb
   simp at he'
   subst he'
   have:=F.pos hbe sw
   cases k with
   | zero=>omega
   | succ k=>
    obtain ⟨F',hp'⟩:=F.take sw
    have hbut:=jd c A B hB G w.2 (by omega)
    have hlen:(bb G w.2).length≤G.length:=iZ
    have hsw:=dG c A B hA hB (bb G w.2) b [e'] (by omega)
    obtain ⟨x4,x6,ih⟩:=drain_eq hA hB (e0:=e0) (e3:=e3) hbe U hL f k (bb G w.2) (ws++[w]) F' (by omega) (by simp;omega)
    refine ⟨x4,x6,?_⟩
    unfold cU
    have ht:(aj (ad cW (ab 6) (ac .non))) [e0,some (.sh (A.e b)),some (.sh (A.e e')),e3,some (.sh (.lst (G.map (A.tri B).e))),some (.ow (ws.map (aG A B))),some (.sh (outW A B (some w)))]=some true:=rfl
    rw [ht]
    simp only [Option.bind_some]
    rw [if_pos trivial]
    have hbig:ws.length≤big:=by rw [bO];omega
    have hbody:(ar (dg 5 (ab 6)) (ar (sset 4 (ao 2 (cO c) (aa (ab 4) (aa (ad oIx (ab 6) (ac (.int 1))) ah)))) (sset 6 (ao 3 (a9 c) (aa (ab 4) (aa (ab 1) (aa (cA (aa (ab 2) ah)) ah)))))))
      [e0,some (.sh (A.e b)),some (.sh (A.e e')),e3,some (.sh (.lst (G.map (A.tri B).e))),some (.ow (ws.map (aG A B))),some (.sh (outW A B (some w)))] =
      some (.nx [e0,some (.sh (A.e b)),some (.sh (A.e e')),e3,some (.sh (.lst ((bb G w.2).map (A.tri B).e))),some (.ow ((ws++[w]).map (aG A B))),some (.sh (outW A B (cX 100 (bb G w.2) b [e'])))]):=by
     refine seq1 (δ1:=[e0,some (.sh (A.e b)),some (.sh (A.e e')),e3,some (.sh (.lst (G.map (A.tri B).e))),some (.ow ((ws++[w]).map (aG A B))),some (.sh (outW A B (some w)))]) ?_ ?_
     ·
      simp [dg,hbig,outW]
     ·
      refine seq1 (dF (dl (r1:=.sh _) (r2:=.sh (.lst (w.2.map B.e))) rfl (bm (a:=.sh (aG A B w)) (b:=.sh (.int 1)) rfl rfl (by simp [aG,cZ])) hbut (.inl ⟨rfl,rfl⟩)) rfl rfl) ?_
      exact dF (mw (r1:=.sh _) (r2:=.sh (A.e b)) (r3:=.fr [A.e e']) rfl rfl (lst1 (r:=.sh (A.e e')) rfl rfl) hsw (.inl ⟨rfl,rfl,rfl⟩)) rfl rfl
    rw [hbody]
    simp only [Option.bind_some,cG]
    exact ih
theorem lh (hA:A.k≤9) (hB:B.k≤9) {L:ba P N} {b e:P} (hbe:b≠e) (U:Uniq L) (hL:L.length≤40) (many:Nat) (hm:many<100) :
  dL c [.lst (L.map (A.tri B).e),A.e b,A.e e,.int many]=some (.lst ((ax 100 100 L b e many).map (aG A B))):=by
 obtain ⟨k,F,k1,k2⟩:=m9 (n:=100) U (by omega) many 0 [] (Flow.zero (L:=L) (b:=b) (e:=e))
 have hGL:=gw U F
 have hmg:=nC c A B hA hB (L:=L) (b:=b) (e:=e) U hL many (by omega)
 have hsw:=dG c A B hA hB (bg 100 L b e many []) b [e] (by omega)
 obtain ⟨x4,x6,hd⟩:=drain_eq c A B hA hB (L:=L) (b:=b) (e:=e) (e0:=some (.sh (.lst (L.map (A.tri B).e)))) (e3:=some (.sh (.int many))) hbe U hL 100 k (bg 100 L b e many []) [] F (by omega) (by simp;omega)
 refine bA (r:=.fr _) rfl ?_ rfl
 refine seq1 (dF (call4 (r1:=.sh _) (r2:=.sh (A.e b)) (r3:=.sh (A.e e)) (r4:=.sh (.int many)) rfl rfl rfl rfl hmg (.inl ⟨rfl,rfl,rfl,rfl⟩)) rfl rfl) ?_
 refine seq1 (δ1:=[some (.sh (.lst (L.map (A.tri B).e))),some (.sh (A.e b)),some (.sh (A.e e)),some (.sh (.int many)),some (.sh (.lst ((bg 100 L b e many []).map (A.tri B).e))),some (.ow []),none]) (by simp) ?_
 refine seq1 (dF (mw (r1:=.sh _) (r2:=.sh (A.e b)) (r3:=.fr [A.e e]) rfl rfl (lst1 (r:=.sh (A.e e)) rfl rfl) hsw (.inl ⟨rfl,rfl,rfl⟩)) rfl rfl) ?_
 exact seq1 hd rfl
theorem mB (hA:A.k≤9) {L:ba P N} {e0 e1 e2:Option E}:∀ (ws:List (Wlk P N)) (G:ba P N) (x4:Option E),(∀ w∈ws,w.1.length=w.2.length+1)→G.length+(ws.flatMap al).length≤1000→
  ∃ x,bu (au 4) (sext 3 (ao 1 (bX c) (aa (ab 4) ah))) (ws.map (aG A B)) [e0,e1,e2,some (.ow (G.map (A.tri B).e)),x4]=some (.nx [e0,e1,e2,some (.ow ((G++ws.flatMap al).map (A.tri B).e)),x])
 | [],G,x4,_,_=>⟨x4,by simp [bu]⟩
 | w::ws,G,x4,h,hl=>by
  have hs:=jU c A B w (h w (by simp))
  simp only [List.flatMap_cons,List.length_append] at hl
  obtain ⟨x,ih⟩:=mB hA (L:=L) (e0:=e0) (e1:=e1) (e2:=e2) ws (G++al w) (some (.sh (aG A B w))) (fun w' hw'=>h w' (by simp [hw'])) (by simp only [List.length_append];omega)
  refine ⟨x,?_⟩
  rw [List.map_cons]
  unfold bu
  have hg:au 4 (aG A B w) [e0,e1,e2,some (.ow (G.map (A.tri B).e)),x4]=some [e0,e1,e2,some (.ow (G.map (A.tri B).e)),some (.sh (aG A B w))]:=rfl
  rw [hg]
  have hc:ao 1 (bX c) (aa (ab 4) ah) [e0,e1,e2,some (.ow (G.map (A.tri B).e)),some (.sh (aG A B w))]=some (.sh (.lst ((al w).map (A.tri B).e))):=ld (r1:=.sh (aG A B w)) rfl hs (.inl rfl)
  have hb:sext 3 (ao 1 (bX c) (aa (ab 4) ah)) [e0,e1,e2,some (.ow (G.map (A.tri B).e)),some (.sh (aG A B w))]=some (.nx [e0,e1,e2,some (.ow ((G++al w).map (A.tri B).e)),some (.sh (aG A B w))]):=by
   unfold sext
   show (ao 1 (bX c) (aa (ab 4) ah) _).bind _=_
   rw [hc]
   show (if (G.map (A.tri B).e).length+((al w).map (A.tri B).e).length≤big then _ else _)=_
   rw [if_pos (by rw [bO];simp only [List.length_map];omega)]
   simp
  show (sext 3 _ _).bind _=_
  rw [hb]
  simp only [Option.bind_some,cG]
  rw [ih]
  simp
theorem pF (hA:A.k≤9) (hB:B.k≤9) (L:ba P N) (ws:List (Wlk P N)) (b:P) (h:∀ w∈ws,w.1.length=w.2.length+1) (hL:L.length≤40) (hG:(ws.flatMap al).length≤40) :
  fE c [.lst (L.map (A.tri B).e),.lst (ws.map (aG A B)),A.e b]=some (.lst ((reach 100 ((az L (ws.flatMap al)).map fun s=>(s.1,s.2.1)) b).map A.e)):=by
 obtain ⟨x,hl⟩:=mB c A B hA (L:=L) (e0:=some (.sh (.lst (L.map (A.tri B).e)))) (e1:=some (.sh (.lst (ws.map (aG A B))))) (e2:=some (.sh (A.e b))) ws [] none h (by simp only [List.length_nil];omega)
 have hfs:=h7 c A B hB L (ws.flatMap al) (by omega) (by omega)
 have hlen:(az L (ws.flatMap al)).length≤90:=by
  unfold az
  have:=iZ (L:=L) (ns:=(ws.flatMap al).map bR)
  simp only [List.length_append,List.length_map]
  omega
 have hr:=pE c A (by omega) (σ:=P×P×N) (A.tri B).e (fun s=>(s.1,s.2.1)) (fun s=>⟨[B.e s.2.2],rfl⟩) (az L (ws.flatMap al)) b hlen
 refine bA (r:=.sh _) rfl ?_ rfl
 refine seq1 (δ1:=[some (.sh (.lst (L.map (A.tri B).e))),some (.sh (.lst (ws.map (aG A B)))),some (.sh (A.e b)),some (.ow []),none]) (by simp) ?_
 refine seq1 (δ1:=[some (.sh (.lst (L.map (A.tri B).e))),some (.sh (.lst (ws.map (aG A B)))),some (.sh (A.e b)),some (.ow (([]++ws.flatMap al).map (A.tri B).e)),x]) (by
  simp only [bV,eu,cK,List.getElem?_cons_zero,List.getElem?_cons_succ,Option.bind_some,ej,bn]
  simp only [Bool.false_eq_true,if_false,Option.bind_some]
  exact hl) ?_
 rw [ff]
 refine iq (dl (r1:=.sh (A.e b)) (r2:=.sh _) rfl (dl (r1:=.sh _) (r2:=.sh (.lst ((ws.flatMap al).map (A.tri B).e))) rfl rfl hfs (.inl ⟨rfl,rfl⟩)) hr (.inl ⟨rfl,rfl⟩)) rfl
end
end Pg
end
section
set_option linter.all false
set_option Elab.async false
set_option maxRecDepth 100000
namespace Pg
open PySem PySem.Spec L2 Ew Mx
variable (c:CA)
abbrev Tie:=Int×Int
abbrev ET:Enc Tie:=Enc.int.par Enc.int
abbrev aK (t:Tie):D:=.tup [.int t.1,.int t.2]
abbrev am (ns:List Int):D:=.lst (ns.map .int)
abbrev eWk (w:Wlk Int Int):D:=aG Enc.int Enc.int w
def aI (n:Int) (T:List Tie):D:=.obj c.Web [("points",.int n),("pairs",.lst (T.map aK))]
theorem mC {A:Type} {a b:A}:List.lookup ("points" : Str) [("points",a),("pairs",b)]=some a:=rfl
theorem lk_pairs {A:Type} {a b:A}:List.lookup ("pairs" : Str) [("points",a),("pairs",b)]=some b:=rfl
theorem lk_ties {A:Type} {a b:A}:List.lookup ("ties" : Str) [("points",a),("pairs",b)]=none:=rfl
def b7 (n:Int) (T:List Tie):Prop:=1≤n∧n≤8∧T.length≤14∧∀ t∈T,0≤t.1∧t.1<t.2∧t.2<n
theorem cy (i:Int):bK c [.int i]=some (.bl true):=by
 simp [bK,jQ,av,dA,is_bool]
def gI (n p:Int):Bool:=decide (0≤p)&&decide (p<n)
theorem fX (n p:Int) (T:List Tie):bU c [aI c n T,.int p]=some (.bl (gI n p)):=by
 unfold gI
 by_cases h:0≤p <;> simp [bU,jR,aI,h,mC]
theorem ties_eq (n:Int) (T:List Tie):bz c [aI c n T]=some (.lst (T.map aK)):=by
 simp [bz,k5,aI,lk_pairs]
theorem g9 {f:FE} {δ:DSt} {n:Int} {T:List Tie} (h:f δ=some (.sh (aI c n T))):bQ c.Web "ties" 1 (bz c) f ah δ=some (.sh (.lst (T.map aK))):=by
 have:=ties_eq c n T
 unfold aI at this h
 simp [h,lk_ties,this]
def bG (n p q:Int):Bool:=gI n p&&(gI n q&&!decide (p=q))
theorem fY (n p q:Int) (T:List Tie):bB c [aI c n T,.int p,.int q]=some (.bl (bG n p q)):=by
 have h1:=fX c n p T
 have h2:=fX c n q T
 unfold bG
 cases e1:gI n p <;> cases e2:gI n q <;> rw [e1] at h1 <;> rw [e2] at h2 <;> simp [bB,fC,h1,h2]
theorem je (p q:Int):(if q<p then q else p)=min p q:=by split <;> omega
theorem kE (p q:Int):(if q>p then q else p)=max p q:=by split <;> omega
def eR (p q:Int):Tie:=(min p q,max p q)
theorem li (p q:Int):b9 c [.int p,.int q]=some (aK (eR p q)):=by
 have:(2:Nat)≤big:=by decide
 simp only [b9,hU,aK,eR,←je,←kE]
 simp [this]
def pts (n:Int):List Int:=(List.range n.toNat).map fun (k:Nat)=>(k:Int)
theorem lK (n:Int) (T:List Tie) (h:0≤n) (h2:n≤1000):c8 c [aI c n T]=some (am (pts n)):=by
 have e:(-1000000:Int)≤0∧(0:Int)≤1000000∧-1000000≤n∧n≤1000000:=by omega
 simp only [c8,i8,run_e,sret_e,iN,aP,dQ,kP,cK,aI]
 simp [mC,rngD,e,am,pts]
def isSet (n:Int) (ps:List Int):Bool:=decide (ps=(pts n).filter ps.contains)
theorem pts_len (n:Int):(pts n).length=n.toNat:=by unfold pts;simp
theorem mem_pts {n p:Int}:p∈pts n↔0≤p∧p<n:=by
 unfold pts
 rw [List.mem_map]
 constructor
 ·
  rintro ⟨k,hk,rfl⟩
  rw [List.mem_range] at hk
  omega
 ·
  rintro ⟨h1,h2⟩
  exact ⟨p.toNat,by rw [List.mem_range];omega,by omega⟩
theorem pts_nodup (n:Int):(pts n).Nodup:=fj List.nodup_range (fun x _ y _ e=>by omega)
theorem kd (n:Int) (T:List Tie) (ps:List Int) (h:0≤n) (h2:n≤100):eL c [aI c n T,am ps]=some (.bl (isSet n ps)):=by
 have a:=lK c n T h (by omega)
 have hb:(pts n).length≤1000:=by rw [pts_len];omega
 have cm:=bY (fi:=aO (ao 1 (c8 c) (aa (ab 0) ah))) (g:=au 0) (t:=aj (ad oIn (ab 0) (ab 1))) (fe:=ab 0) (m:=1) (ix:=[1]) (δ:=[some (.sh (aI c n T)),some (.sh (am ps))]) (items:=(pts n).map .int) (by
   rw [eu,ld (r1:=.sh (aI c n T)) rfl a (.inl rfl)];rfl) (by simpa using hb) (bW _ _ _ _ D.int ps.contains D.int (pts n) (fun x _=>by
  refine ⟨_,rfl,?_,fun _=>⟨.sh (.int x),rfl,rfl,rfl⟩⟩
  simp [dIn,am]))
 refine bA (r:=.sh (.bl (isSet n ps))) rfl (iq (bm (a:=.sh (am ps)) rfl cm ?_) rfl) rfl
 show oEq (.lst (ps.map .int)) (.lst (((pts n).filter ps.contains).map .int))=_
 rw [oEq_ints];rfl
def cc (ps:List Int) (t:Tie):Bool:=decide (t.1∈ps) != decide (t.2∈ps)
def nD (T:List Tie) (ps:List Int):List Int:=(T.filter (cc ps)).map fun t=>if t.1∈ps then t.2 else t.1
theorem oNe_bb (a b:Bool):oNe (.bl a) (.bl b)=some (.sh (.bl (a != b))):=by
 cases a <;> cases b <;> rfl
theorem lj (n:Int) (T:List Tie) (ps:List Int) (hT:T.length≤1000):dC c [aI c n T,am ps]=some (am (nD T ps)):=by
 have c1:=bY (fi:=aO ((bQ c.Web "ties" 1 (bz c) (ab 0) ah))) (g:=au 0) (t:=aj (ad oNe (ad oIn (ad oIx (ab 0) (ac (.int 0))) (ab 1)) (ad oIn (ad oIx (ab 0) (ac (.int 1))) (ab 1)))) (fe:=ab 0) (m:=1) (ix:=[1]) (δ:=[some (.sh (aI c n T)),some (.sh (am ps)),none]) (items:=T.map aK) (by
   rw [eu,g9 c (f:=ab 0) rfl];rfl) (by simpa using hT) (bW _ _ _ _ aK (cc ps) aK T (fun t _=>by
  refine ⟨_,rfl,?_,fun _=>⟨.sh (aK t),rfl,rfl,rfl⟩⟩
  simp [dIn,am,di,cZ,oNe_bb,cc]))
 have c2:=bY (fi:=aO (ab 2)) (g:=au 0) (t:=cJ) (fe:=dif (aj (ad oIn (ad oIx (ab 0) (ac (.int 0))) (ab 1))) (ad oIx (ab 0) (ac (.int 1))) (ad oIx (ab 0) (ac (.int 0)))) (m:=1) (ix:=[1]) (δ:=[some (.sh (aI c n T)),some (.sh (am ps)),some (.sh (.lst ((T.filter (cc ps)).map aK)))]) rfl (by simp;exact Nat.le_trans (List.length_filter_le _ _) hT) (bW _ _ _ _ aK (fun _=>true) (fun t=>.int (if t.1∈ps then t.2 else t.1)) (T.filter (cc ps)) (fun t _=>by
  refine ⟨_,rfl,rfl,fun _=>⟨.sh (.int (if t.1∈ps then t.2 else t.1)),?_,rfl,rfl⟩⟩
  by_cases h:t.1∈ps <;> simp [dIn,am,di,cZ,h]))
 have e1:((T.filter (cc ps)).filter fun _=>true)=T.filter (cc ps):=by simp
 rw [e1] at c2
 refine bA (r:=.fr _) rfl (seq1 (dF c1 rfl rfl) ?_) rfl
 rw [ff]
 refine (iq c2 rfl).trans ?_
 unfold nD
 rw [List.map_map]
 rfl
theorem pG (T:List Tie) (ps:List Int):(nD T ps).length=(T.filter (cc ps)).length:=by simp [nD]
def cP (n:Int) (T:List Tie) (ps:List Int) (one other many:Int):Bool:=
 bG n one other&&isSet n ps&&decide (one∈ps)&&!decide (other∈ps)&&decide (((T.filter (cc ps)).length:Int)<many)
def bT (ps:List Int):D:=.obj c.Part [("points",am ps)]
theorem ft (n:Int) (T:List Tie) (ps:List Int) (one other many:Int) (h:0≤n) (h2:n≤100) (hT:T.length≤1000) :
  aW c [bT c ps,aI c n T,.int one,.int other,.int many]=some (.bl (cP n T ps one other many)):=by
 have a1:=fY c n one other T
 have a2:=kd c n T ps h h2
 have a3:=lj c n T ps hT
 have lk:List.lookup ("points" : Str) [("points",am ps)]=some (am ps):=rfl
 unfold cP
 cases e1:bG n one other
 ·
  rw [e1] at a1;simp [aW,cr,a1,bT]
 ·
  rw [e1] at a1
  cases e2:isSet n ps
  ·
   rw [e2] at a2;simp [aW,cr,a1,a2,bT,lk]
  ·
   rw [e2] at a2
   have lk':List.lookup ("points" : Str) [("points",D.lst (ps.map .int))]=some (D.lst (ps.map .int)):=rfl
   by_cases e3:one∈ps
   ·
    by_cases e4:other∈ps
    ·
     simp [aW,cr,a1,bT,lk',am,e3,e4] at a2 ⊢;simp [a2,e3,e4]
    ·
     simp [aW,cr,a1,bT,lk',am,e3,e4] at a2 a3 ⊢;simp [a2,a3,e3,e4,pG]
   ·
    simp [aW,cr,a1,bT,lk',am,e3] at a2 ⊢;simp [a2,e3]
end Pg
end
section
set_option linter.all false
set_option Elab.async false
set_option maxRecDepth 100000
namespace Pg
open PySem PySem.Spec L2 Ew Mx
variable (c:CA)
theorem eD:∀ ns:List Int,nums (ns.map .int)=some ns
 | []=>rfl
 | n::ns=>by simp only [List.map_cons,nums,eD ns];rfl
theorem mD:∀ bs:List Bool,bls (bs.map .bl)=some bs
 | []=>rfl
 | b::bs=>by simp only [List.map_cons,bls,mD bs];rfl
theorem ll:∀ (ns acc:List Int),acc.Nodup→(ns.foldl PyProof.Rows.step_dedup acc).Nodup∧(ns.foldl PyProof.Rows.step_dedup acc).length≤acc.length+ns.length∧
  ((ns.foldl PyProof.Rows.step_dedup acc).length=acc.length+ns.length↔(acc++ns).Nodup)∧∀ x,x∈ns.foldl PyProof.Rows.step_dedup acc↔x∈acc∨x∈ns
 | [],acc,h=>by simp [h]
 | n::ns,acc,h=>by
  rw [List.foldl_cons]
  by_cases hm:n∈acc
  ·
   have e:PyProof.Rows.step_dedup acc n=acc:=by
    unfold PyProof.Rows.step_dedup
    rw [if_pos]
    rw [List.any_eq_true]
    exact ⟨n,hm,by simp⟩
   rw [e]
   obtain ⟨i1,i2,i3,i4⟩:=ll ns acc h
   refine ⟨i1,by simp;omega,?_,?_⟩
   ·
    constructor
    ·
     intro he;simp at he;omega
    ·
     intro hn
     rw [List.nodup_append] at hn
     exact absurd rfl (hn.2.2 n hm n (by simp))
   ·
    intro x
    rw [i4]
    constructor
    ·
     rintro (h | h)
     ·
      exact .inl h
     ·
      exact .inr (by simp [h])
    ·
     rintro (h | h)
     ·
      exact .inl h
     ·
      simp at h
      rcases h with rfl | h
      ·
       exact .inl hm
      ·
       exact .inr h
  ·
   have e:PyProof.Rows.step_dedup acc n=acc++[n]:=by
    unfold PyProof.Rows.step_dedup
    rw [if_neg]
    intro ha
    rw [List.any_eq_true] at ha
    obtain ⟨x,hx,ex⟩:=ha
    simp at ex
    subst ex
    exact hm hx
   rw [e]
   obtain ⟨i1,i2,i3,i4⟩:=ll ns (acc++[n]) (by
    rw [List.nodup_append]
    refine ⟨h,by simp,?_⟩
    intro a ha b hb eab
    simp at hb
    subst hb;subst eab
    exact hm ha)
   refine ⟨i1,by simp at i2 ⊢;omega,?_,?_⟩
   ·
    simp only [List.length_append,List.length_cons,List.length_nil,List.append_assoc,List.cons_append,List.nil_append] at i3
    rw [←i3]
    simp only [List.length_cons]
    omega
   ·
    intro x
    rw [i4]
    simp [or_assoc]
theorem lm (ns:List Int):((iL ns).length=ns.length)↔ns.Nodup:=by
 have:=(ll ns [] (by simp)).2.2.1
 simpa [iL] using this
theorem h8 (ns:List Int) (h:ns.length≤1000):c6 c [am ns]=some (.bl (decide ns.Nodup)):=by
 have e:decide (((iL ns).length:Int)=(ns.length:Int))=decide ns.Nodup:=by
  rw [decide_eq_decide,←lm]
  omega
 simp [c6,i7,cV,am,eD,h,e]
def aq (T:List Tie):ba Int Int:=(T.zipIdx).flatMap fun p=>[(p.1.1,p.1.2,(p.2:Int)),(p.1.2,p.1.1,(p.2:Int))]
theorem cQ {T:List Tie} {s:Int×Int×Int}:s∈aq T↔∃ (i:Nat) (t:Tie),T[i]?=some t∧s.2.2=(i:Int)∧((s.1=t.1∧s.2.1=t.2)∨(s.1=t.2∧s.2.1=t.1)):=by
 unfold aq
 rw [List.mem_flatMap]
 constructor
 ·
  rintro ⟨p,hp,hs⟩
  obtain ⟨t,i⟩:=p
  have:=List.mem_zipIdx_iff_getElem?.1 hp
  simp at this hs
  refine ⟨i,t,this,?_⟩
  rcases hs with rfl | rfl
  ·
   exact ⟨rfl,.inl ⟨rfl,rfl⟩⟩
  ·
   exact ⟨rfl,.inr ⟨rfl,rfl⟩⟩
 ·
  rintro ⟨i,t,h1,h2,h3⟩
  refine ⟨(t,i),List.mem_zipIdx_iff_getElem?.2 h1,?_⟩
  rcases s with ⟨x,y,z⟩
  simp at h2 h3 ⊢
  subst h2
  rcases h3 with ⟨rfl,rfl⟩ | ⟨rfl,rfl⟩
  ·
   exact .inl ⟨rfl,rfl,rfl⟩
  ·
   exact .inr ⟨rfl,rfl,rfl⟩
theorem cR (T:List Tie):(aq T).length=2*T.length:=by
 unfold aq
 have:∀ (T:List Tie) (k:Nat),((T.zipIdx k).flatMap fun p=>[(p.1.1,p.1.2,(p.2:Int)),(p.1.2,p.1.1,(p.2:Int))]).length=2*T.length:=by
  intro T
  induction T with
  | nil=>intro k;rfl
  | cons t T ih=>intro k;simp only [List.zipIdx_cons,List.flatMap_cons,List.length_append,ih,List.length_cons,List.length_nil];omega
 exact this T 0
theorem eC (T:List Tie):Uniq (aq T):=by
 intro s hs t ht e
 obtain ⟨i,x,h1,h2,h3⟩:=cQ.1 hs
 obtain ⟨j,y,k1,k2,k3⟩:=cQ.1 ht
 have:i=j:=by rw [h2,k2] at e;omega
 subst this
 rw [h1] at k1
 cases k1
 rcases s with ⟨a,b,n⟩
 rcases t with ⟨a',b',n'⟩
 simp at *
 subst h2;subst k2
 rcases h3 with ⟨rfl,rfl⟩ | ⟨rfl,rfl⟩ <;> rcases k3 with ⟨rfl,rfl⟩ | ⟨rfl,rfl⟩ <;> simp
theorem iu {n:Int} {T:List Tie} (W:b7 n T):∀ s∈aq T,0≤s.1∧s.1<n∧0≤s.2.1∧s.2.1<n:=by
 intro s hs
 obtain ⟨i,x,h1,h2,h3⟩:=cQ.1 hs
 have:=W.2.2.2 x (List.mem_of_getElem? h1)
 omega
abbrev eSt (s:Int×Int×Int):D:=(Enc.int.tri Enc.int).e s
theorem h9 {e0:Option E}:∀ (T:List Tie) (k:Nat) (acc:ba Int Int) (x2 x3:Option E),acc.length+2*T.length≤1000→
  ∃ y2 y3,bu (jl 2 (cf (au 2) (cf (au 3) j4))) (ar (dg 1 (b6 (aa (ad oIx (ab 3) (ac (.int 0))) (aa (ad oIx (ab 3) (ac (.int 1))) (aa (ab 2) ah))))) (dg 1 (b6 (aa (ad oIx (ab 3) (ac (.int 1))) (aa (ad oIx (ab 3) (ac (.int 0))) (aa (ab 2) ah))))))
   ((T.zipIdx k).map fun p=>D.tup [.int (p.2:Int),aK p.1]) [e0,some (.ow (acc.map eSt)),x2,x3] =
   some (.nx [e0,some (.ow ((acc++(T.zipIdx k).flatMap fun p=>[(p.1.1,p.1.2,(p.2:Int)),(p.1.2,p.1.1,(p.2:Int))]).map eSt)),y2,y3])
 | [],k,acc,x2,x3,_=>⟨x2,x3,by simp [bu]⟩
 | t::T,k,acc,x2,x3,hl=>by
  simp only [List.length_cons] at hl
  obtain ⟨y2,y3,ih⟩:=h9 (e0:=e0) T (k+1) (acc++[(t.1,t.2,(k:Int)),(t.2,t.1,(k:Int))]) (some (.sh (.int k))) (some (.sh (aK t))) (by simp;omega)
  refine ⟨y2,y3,?_⟩
  have b3:(3:Nat)≤big:=by rw [bO];omega
  have b4:acc.length≤big:=by rw [bO];omega
  have b5:acc.length+1≤big:=by rw [bO];omega
  rw [List.zipIdx_cons,List.map_cons]
  unfold bu
  have hg:jl 2 (cf (au 2) (cf (au 3) j4)) (D.tup [.int (k:Int),aK t]) [e0,some (.ow (acc.map eSt)),x2,x3]=some [e0,some (.ow (acc.map eSt)),some (.sh (.int k)),some (.sh (aK t))]:=rfl
  rw [hg]
  simp only [Option.bind_some]
  have hb:(ar (dg 1 (b6 (aa (ad oIx (ab 3) (ac (.int 0))) (aa (ad oIx (ab 3) (ac (.int 1))) (aa (ab 2) ah))))) (dg 1 (b6 (aa (ad oIx (ab 3) (ac (.int 1))) (aa (ad oIx (ab 3) (ac (.int 0))) (aa (ab 2) ah))))))
    [e0,some (.ow (acc.map eSt)),some (.sh (.int k)),some (.sh (aK t))]=some (.nx [e0,some (.ow ((acc++[(t.1,t.2,(k:Int)),(t.2,t.1,(k:Int))]).map eSt)),some (.sh (.int k)),some (.sh (aK t))]):=by
   simp [dg,di,cZ,b3,b4,b5,tri_e,Enc.int]
  rw [hb]
  simp only [Option.bind_some,cG]
  rw [ih]
  simp
theorem oS (n:Int) (T:List Tie) (hT:T.length≤400):ip c [aI c n T]=some (.lst ((aq T).map eSt)):=by
 obtain ⟨y2,y3,h⟩:=h9 (e0:=some (.sh (aI c n T))) T 0 [] none none (by simp;omega)
 refine bA (r:=.fr _) rfl ?_ rfl
 refine seq1 (δ1:=[some (.sh (aI c n T)),some (.ow []),none,none]) (by simp) ?_
 refine seq1 (δ1:=[some (.sh (aI c n T)),some (.ow ((aq T).map eSt)),y2,y3]) ?_ rfl
 have hi:(iM (aa ((bQ c.Web "ties" 1 (bz c) (ab 0) ah)) ah)) [some (.sh (aI c n T)),some (.ow []),none,none]=some ((T.zipIdx 0).map fun p=>D.tup [.int (p.2:Int),aK p.1]):=by
  unfold iM
  rw [aP,g9 c (f:=ab 0) rfl]
  simp only [Option.bind_some,dQ,ej,bn,Bool.false_eq_true,if_false,List.length_map]
  congr 1
  refine List.ext_getElem? fun i=>?_
  rw [List.getElem?_zipWith,List.getElem?_map,List.getElem?_map,List.getElem?_zipIdx]
  by_cases hi:i<T.length
  ·
   rw [List.getElem?_range hi,List.getElem?_eq_getElem hi]
   simp
  ·
   rw [List.getElem?_eq_none (show (List.range T.length).length≤i by simp;omega),List.getElem?_eq_none (show T.length≤i by omega)]
   rfl
 unfold bV
 rw [hi]
 exact h
end Pg
end
section
set_option linter.all false
set_option Elab.async false
set_option maxRecDepth 100000
namespace Pg
open PySem PySem.Spec L2 Ew Mx
variable (c:CA)
theorem oU {P N:Type} {w:Wlk P N} (h:w.1.length=w.2.length+1) {k:Nat} (hk:k<w.2.length) :
  (w.1[k]'(by omega),w.1[k+1]'(by omega),w.2[k])∈al w:=by
 unfold al
 have:(w.1.zip (w.1.tail.zip w.2))[k]?=some (w.1[k]'(by omega),w.1[k+1]'(by omega),w.2[k]):=by
  rw [List.getElem?_zip_eq_some]
  refine ⟨List.getElem?_eq_getElem (by omega),?_⟩
  rw [List.getElem?_zip_eq_some]
  refine ⟨?_,List.getElem?_eq_getElem hk⟩
  rw [List.getElem?_tail]
  exact List.getElem?_eq_getElem (by omega)
 exact List.mem_of_getElem? this
structure gJ (n:Int) (T:List Tie) (w:Wlk Int Int):Prop where
 len:w.1.length=w.2.length+1
 pt:∀ p∈w.1,0≤p∧p<n
 st:∀ s∈al w,s∈aq T
 sm:w.2.length≤100
theorem gJ.tie {n:Int} {T:List Tie} (W:b7 n T) {w:Wlk Int Int} (h:gJ n T w) {k:Nat} (hk:k<w.2.length) :
  0≤w.2[k]∧w.2[k]<(T.length:Int)∧T[(w.2[k]).toNat]?=some (eR (w.1[k]'(by have:=h.len;omega)) (w.1[k+1]'(by have:=h.len;omega))):=by
 obtain ⟨i,t,h1,h2,h3⟩:=cQ.1 (h.st _ (oU h.len hk))
 have hb:=W.2.2.2 t (List.mem_of_getElem? h1)
 have hi:=(List.getElem?_eq_some_iff.mp h1).1
 simp only at h2 h3
 refine ⟨by omega,by omega,?_⟩
 rw [h2]
 have e:((i:Int).toNat)=i:=by simp
 rw [e,h1]
 unfold eR
 rcases t with ⟨a,b⟩
 simp only at hb h3
 congr 1
 rcases h3 with ⟨e1,e2⟩ | ⟨e1,e2⟩
 ·
  rw [e1,e2];exact Prod.ext (by simp;omega) (by simp;omega)
 ·
  rw [e1,e2];exact Prod.ext (by simp;omega) (by simp;omega)
theorem all_true {f:DSt→Option (List R)} {δ:DSt} {α:Type} {xs:List α} (h:f δ=some [.fr (xs.map fun _=>D.bl true)]):aA jo f δ=some (.sh (.bl true)):=by
 rw [iQ,h]
 simp only [Option.bind_some,view_fr]
 unfold jo
 have e:(xs.map fun _=>D.bl true)=(xs.map fun _=>true).map D.bl:=by rw [List.map_map];rfl
 rw [e]
 show (bls ((xs.map fun _=>true).map D.bl)).map _=_
 rw [mD]
 simp
theorem jf {α:Type} {xs:List α} {i:Int} (h0:0≤i):atI xs i=xs[i.toNat]?:=by
 obtain ⟨k,rfl⟩ : ∃ k:Nat,i=k:=⟨i.toNat,by omega⟩
 rw [io]
 rfl
theorem oEq_tie (s t:Tie):oEq (aK s) (aK t)=some (.sh (.bl (decide (s=t)))):=ET.oEq (show max 1 1+1≤15 by decide) s t
theorem oNe_tie (s t:Tie):oNe (aK s) (aK t)=some (.sh (.bl (!decide (s=t)))):=ET.oNe (show max 1 1+1≤15 by decide) s t
theorem nE {n:Int} {T:List Tie} (W:b7 n T) {w:Wlk Int Int} (h:gJ n T w):jx c [aI c n T,eWk w]=some (.bl true):=by
 have hl:=h.len
 have hsm:=h.sm
 have e1:sset 2 (ad oIx (ab 1) (ac (.int 0))) [some (.sh (aI c n T)),some (.sh (eWk w)),none,none,none]=some (.nx [some (.sh (aI c n T)),some (.sh (eWk w)),some (.sh (am w.1)),none,none]):=by
  simp [eWk,aG,di,am,Enc.int]
 have e2:sset 3 (ad oIx (ab 1) (ac (.int 1))) [some (.sh (aI c n T)),some (.sh (eWk w)),some (.sh (am w.1)),none,none]=some (.nx [some (.sh (aI c n T)),some (.sh (eWk w)),some (.sh (am w.1)),some (.sh (am w.2)),none]):=by
  simp [eWk,aG,cZ,am,Enc.int]
 have e3:sset 4 ((bQ c.Web "ties" 1 (bz c) (ab 0) ah)) [some (.sh (aI c n T)),some (.sh (eWk w)),some (.sh (am w.1)),some (.sh (am w.2)),none]=some (.nx [some (.sh (aI c n T)),some (.sh (eWk w)),some (.sh (am w.1)),some (.sh (am w.2)),some (.sh (.lst (T.map aK)))]):=dF (g9 c (f:=ab 0) rfl) rfl rfl
 generalize hδ:[some (E.sh (aI c n T)),some (.sh (eWk w)),some (.sh (am w.1)),some (.sh (am w.2)),some (.sh (.lst (T.map aK)))]=δ at e3
 have c1:=bY (fi:=aO (ab 2)) (g:=au 0) (t:=cJ) (fe:=ao 2 (bU c) (aa (ab 1) (aa (ab 0) ah))) (m:=1) (ix:=[0]) (δ:=δ) (items:=w.1.map .int) (by rw [←hδ];rfl) (by simp;omega) (bW _ _ _ _ D.int (fun _=>true) (fun _=>D.bl true) w.1 (fun p hp=>by
  refine ⟨_,rfl,rfl,fun _=>⟨.sh (.bl true),?_,rfl,rfl⟩⟩
  have h1:=h.pt p hp
  have h2:gI n p=true:=by unfold gI;simp;omega
  have h3:=fX c n p T
  rw [h2] at h3
  rw [←hδ]
  exact dl (r1:=.sh (aI c n T)) (r2:=.sh (.int p)) rfl rfl h3 (.inl ⟨rfl,rfl⟩)))
 have hn:∀ pl∈w.2,0≤pl∧pl<(T.length:Int):=by
  intro pl hpl
  obtain ⟨k,hk,rfl⟩:=List.mem_iff_getElem.1 hpl
  have:=h.tie W hk
  exact ⟨this.1,this.2.1⟩
 have c2:=bY (fi:=aO (ab 3)) (g:=au 0) (t:=cJ) (fe:=cS oLe oLt (ac (.int 0)) (ab 0) (aA bJ (aa (ab 1) ah))) (m:=1) (ix:=[4]) (δ:=δ) (items:=w.2.map .int) (by rw [←hδ];rfl) (by simp;omega) (bW _ _ _ _ D.int (fun _=>true) (fun _=>D.bl true) w.2 (fun p hp=>by
  refine ⟨_,rfl,rfl,fun _=>⟨.sh (.bl true),?_,rfl,rfl⟩⟩
  have h1:=hn p hp
  rw [←hδ]
  simp [dIn,h1]))
 have c3:=bY (fi:=iM (aa (ab 3) ah)) (g:=jl 2 (cf (au 0) (cf (au 1) j4))) (t:=cJ) (fe:=ad oEq (ad oIx (ab 2) (ab 1)) (ao 2 (b9 c) (aa (ad oIx (ab 3) (ab 0)) (aa (ad oIx (ab 3) (ad aZ (ab 0) (ac (.int 1)))) ah)))) (m:=2) (ix:=[4,2]) (δ:=δ)
   (items:=(w.2.zipIdx).map fun p=>D.tup [.int (p.2:Int),.int p.1]) (by
   rw [←hδ]
   unfold iM
   simp only [aP,dQ,cK,List.getElem?_cons_zero,List.getElem?_cons_succ,Option.bind_some,ej,bn,Bool.false_eq_true,if_false,List.length_map,am]
   congr 1
   refine List.ext_getElem? fun i=>?_
   rw [List.getElem?_zipWith,List.getElem?_map,List.getElem?_map,List.getElem?_zipIdx]
   by_cases hi:i<w.2.length
   ·
    rw [List.getElem?_range hi,List.getElem?_eq_getElem hi]
    simp
   ·
    rw [List.getElem?_eq_none (show (List.range w.2.length).length≤i by simp;omega),List.getElem?_eq_none (show w.2.length≤i by omega)]
    rfl) (by simp;omega) (bW _ _ _ _ (fun p:Int×Nat=>D.tup [.int (p.2:Int),.int p.1]) (fun _=>true) (fun _=>D.bl true) w.2.zipIdx (fun p hp=>by
  obtain ⟨pl,k⟩:=p
  have hk0:=List.mem_zipIdx_iff_getElem?.1 hp
  simp only at hk0
  have hk:=(List.getElem?_eq_some_iff.mp hk0).1
  have hkv:=(List.getElem?_eq_some_iff.mp hk0).2
  refine ⟨_,rfl,rfl,fun _=>⟨.sh (.bl true),?_,rfl,rfl⟩⟩
  have ht:=h.tie W hk
  rw [hkv] at ht
  have g1:atI (T.map aK) pl=some (aK (eR (w.1[k]'(by omega)) (w.1[k+1]'(by omega)))):=by
   rw [jf ht.1,List.getElem?_map,ht.2.2];rfl
  have g2:atI (w.1.map D.int) (k:Int)=some (.int (w.1[k]'(by omega))):=by rw [io,List.getElem?_map,List.getElem?_eq_getElem (by omega)];rfl
  have g3:atI (w.1.map D.int) ((k:Int)+1)=some (.int (w.1[k+1]'(by omega))):=by
   rw [show (k:Int)+1=((k+1:Nat):Int) by omega,io,List.getElem?_map,List.getElem?_eq_getElem (by omega)];rfl
  have g4:=li c (w.1[k]'(by omega)) (w.1[k+1]'(by omega))
  rw [←hδ]
  refine bm (a:=.sh (aK (eR (w.1[k]'(by omega)) (w.1[k+1]'(by omega))))) (b:=.sh (aK (eR (w.1[k]'(by omega)) (w.1[k+1]'(by omega))))) ?_ ?_ ?_
  ·
   exact bm (a:=.sh (.lst (T.map aK))) (b:=.sh (.int pl)) rfl rfl (by simp only [bn,jK,g1];rfl)
  ·
   refine dl (r1:=.sh (.int (w.1[k]'(by omega)))) (r2:=.sh (.int (w.1[k+1]'(by omega)))) ?_ ?_ g4 (.inl ⟨rfl,rfl⟩)
   ·
    exact bm (a:=.sh (am w.1)) (b:=.sh (.int k)) rfl rfl (by simp only [bn,am,jK,g2];rfl)
   ·
    exact bm (a:=.sh (am w.1)) (b:=.sh (.int ((k:Int)+1))) rfl rfl (by simp only [bn,am,jK,g3];rfl)
  ·
   simp only [bn,oEq_tie]
   simp))
 have f1:∀ {α:Type} (xs:List α),((xs.filter fun _=>true).map fun _=>D.bl true)=xs.map fun _=>D.bl true:=by
  intro α xs
  rw [List.filter_eq_self.2 (fun _ _=>rfl)]
 rw [f1] at c1 c2 c3
 refine bA (r:=.sh (.bl true)) rfl ?_ rfl
 refine seq1 e1 (seq1 e2 (seq1 e3 ?_))
 refine seq1 (δ1:=δ) ?_ ?_
 ·
  rw [←hδ]
  simp [am,hl]
 ·
  have fz2:frz 2 δ=δ:=by rw [←hδ];rfl
  have fz3:frz 3 δ=δ:=by rw [←hδ];rfl
  have a1:=all_true (f:=aa (bD (aO (ab 2)) (au 0) cJ (ao 2 (bU c) (aa (ab 1) (aa (ab 0) ah))) 1 [0]) ah) (δ:=δ) (xs:=w.1) (by rw [aP,c1];rfl)
  have a2:=all_true (f:=aa (bD (aO (ab 3)) (au 0) cJ (cS oLe oLt (ac (.int 0)) (ab 0) (aA bJ (aa (ab 1) ah))) 1 [4]) ah) (δ:=δ) (xs:=w.2) (by rw [aP,c2];rfl)
  have a3:=all_true (f:=aa (bD (iM (aa (ab 3) ah)) (jl 2 (cf (au 0) (cf (au 1) j4))) cJ (ad oEq (ad oIx (ab 2) (ab 1)) (ao 2 (b9 c) (aa (ad oIx (ab 3) (ab 0)) (aa (ad oIx (ab 3) (ad aZ (ab 0) (ac (.int 1)))) ah)))) 2 [4,2]) ah) (δ:=δ) (xs:=w.2.zipIdx) (by rw [aP,c3];rfl)
  refine seq1 (δ1:=δ) ?_ (seq1 (δ1:=δ) ?_ ?_)
  ·
   rw [ff,fz2,dX,gR,cg,a1];rfl
  ·
   rw [ff,fz3,dX,gR,cg,a2];rfl
  ·
   rw [ff,fz3];exact iq a3 rfl
end Pg
end
section
set_option linter.all false
set_option Elab.async false
set_option maxRecDepth 100000
namespace Pg
open PySem PySem.Spec L2 Ew Mx
variable (c:CA)
theorem call5 {m:List D→Option D} {f1 f2 f3 f4 f5:FE} {δ:DSt} {r1 r2 r3 r4 r5:R} {d:D} (h1:f1 δ=some r1) (h2:f2 δ=some r2) (h3:f3 δ=some r3) (h4:f4 δ=some r4) (h5:f5 δ=some r5) (hm:m [r1.view,r2.view,r3.view,r4.view,r5.view]=some d) (hb:(r1.isBw=false∧r2.isBw=false∧r3.isBw=false∧r4.isBw=false∧r5.isBw=false)∨d.flat=true):ao 5 m (aa f1 (aa f2 (aa f3 (aa f4 (aa f5 ah))))) δ=some (.sh d):=by
 simp only [iP,aP,dQ,h1,h2,h3,h4,h5,Option.bind_some,gS,List.map_cons,List.map_nil,hm]
 rw [if_pos]
 exact ⟨rfl,hb.imp (fun h=>by simp [h]) id⟩
theorem ln {f:FE} {δ:DSt} {w:Wlk Int Int} (h:f δ=some (.sh (eWk w))):ad oIx f (ac (.int 0)) δ=some (.sh (am w.1)):=bm h rfl (by simp [eWk,aG,di,am,Enc.int])
theorem eWk_1 {f:FE} {δ:DSt} {w:Wlk Int Int} (h:f δ=some (.sh (eWk w))):ad oIx f (ac (.int 1)) δ=some (.sh (am w.2)):=bm h rfl (by simp [eWk,aG,cZ,am,Enc.int])
theorem lp {fa fb:FE} {δ:DSt} {x:Option R} (h1:fa δ=some (.sh (.bl true))) (h2:fb δ=x):e7 fa fb δ=x:=by rw [dand_e,h1];exact h2
theorem oV {n:Int} {T:List Tie} (W:b7 n T) {w:Wlk Int Int} (h:gJ n T w) (nd:w.1.Nodup):gC c [aI c n T,eWk w]=some (.bl true):=by
 have h1:=nE c W h
 have h2:=h8 c w.1 (by have:=h.len;have:=h.sm;omega)
 rw [decide_eq_true nd] at h2
 refine bA (r:=.sh (.bl true)) rfl (iq (lp (dl (r1:=.sh (aI c n T)) (r2:=.sh (eWk w)) rfl rfl h1 (.inl ⟨rfl,rfl⟩)) (ld (r1:=.sh (am w.1)) (ln rfl) h2 (.inl rfl))) rfl) rfl
theorem jV {e0:Option E}:∀ (ws:List (Wlk Int Int)) (acc:List Int) (x:Option E),acc.length+(ws.flatMap (·.2)).length≤1000→
  ∃ y,bu (au 2) (sext 1 (ad oIx (ab 2) (ac (.int 1)))) (ws.map eWk) [e0,some (.ow (acc.map .int)),x]=some (.nx [e0,some (.ow ((acc++ws.flatMap (·.2)).map .int)),y])
 | [],acc,x,_=>⟨x,by simp [bu]⟩
 | w::ws,acc,x,h=>by
  simp only [List.flatMap_cons,List.length_append] at h
  obtain ⟨y,ih⟩:=jV (e0:=e0) ws (acc++w.2) (some (.sh (eWk w))) (by simp only [List.length_append];omega)
  refine ⟨y,?_⟩
  rw [List.map_cons]
  unfold bu
  have hg:au 2 (eWk w) [e0,some (.ow (acc.map .int)),x]=some [e0,some (.ow (acc.map .int)),some (.sh (eWk w))]:=rfl
  rw [hg]
  simp only [Option.bind_some]
  have hb:sext 1 (ad oIx (ab 2) (ac (.int 1))) [e0,some (.ow (acc.map .int)),some (.sh (eWk w))]=some (.nx [e0,some (.ow ((acc++w.2).map .int)),some (.sh (eWk w))]):=by
   unfold sext
   show (ad oIx (ab 2) (ac (.int 1)) _).bind _=_
   rw [eWk_1 (w:=w) rfl]
   show (if (acc.map D.int).length+(w.2.map D.int).length≤big then _ else _)=_
   rw [if_pos (by rw [bO];simp only [List.length_map];omega)]
   simp
  rw [hb]
  simp only [Option.bind_some,cG]
  rw [ih]
  simp
theorem nF (ws:List (Wlk Int Int)) (h:(ws.flatMap (·.2)).length≤1000):gE c [.lst (ws.map eWk)]=some (am (ws.flatMap (·.2))):=by
 obtain ⟨y,hl⟩:=jV (e0:=some (.sh (.lst (ws.map eWk)))) ws [] none (by simpa using h)
 refine bA (r:=.fr _) rfl ?_ rfl
 refine seq1 (δ1:=[some (.sh (.lst (ws.map eWk))),some (.ow []),none]) (by simp) ?_
 refine seq1 (δ1:=[some (.sh (.lst (ws.map eWk))),some (.ow ((ws.flatMap (·.2)).map .int)),y]) ?_ rfl
 simp only [bV,eu,cK,List.getElem?_cons_zero,List.getElem?_cons_succ,Option.bind_some,ej,bn]
 simp only [Bool.false_eq_true,if_false,Option.bind_some]
 exact hl
structure lq (n:Int) (T:List Tie) (one other:Int) (ws:List (Wlk Int Int)):Prop where
 ok:∀ w∈ws,gJ n T w
 nd:∀ w∈ws,w.1.Nodup
 hd:∀ w∈ws,w.1.head?=some one
 lt:∀ w∈ws,w.1.getLast?=some other
 sm:ws.length≤100
theorem lL {n:Int} {T:List Tie} (W:b7 n T) {one other:Int} (h2:bG n one other=true) {ws:List (Wlk Int Int)} (h:lq n T one other ws) :
  eM c [aI c n T,.lst (ws.map eWk),.int one,.int other,.int ws.length]=some (.bl true):=by
 have a1:=fY c n one other T
 rw [h2] at a1
 generalize hδ:[some (E.sh (aI c n T)),some (.sh (.lst (ws.map eWk))),some (.sh (.int one)),some (.sh (.int other)),some (.sh (.int ws.length))]=δ
 have c1:=bY (fi:=aO (ab 1)) (g:=au 0) (t:=cJ) (fe:=(e7 (ao 2 (gC c) (aa (ab 1) (aa (ab 0) ah))) (e7 (ad oEq (ad oIx (ad oIx (ab 0) (ac (.int 0))) (ac (.int 0))) (ab 2)) (ad oEq (ad oIx (ad oIx (ab 0) (ac (.int 0))) (dun e8 (ac (.int 1)))) (ab 3))))) (m:=1) (ix:=[0,2,3]) (δ:=δ) (items:=ws.map eWk) (by rw [←hδ];rfl) (by simp;have:=h.sm;omega) (bW _ _ _ _ eWk (fun _=>true) (fun _=>D.bl true) ws (fun w hw=>by
  refine ⟨_,rfl,rfl,fun _=>⟨.sh (.bl true),?_,rfl,rfl⟩⟩
  rw [←hδ]
  refine lp (dl (r1:=.sh (aI c n T)) (r2:=.sh (eWk w)) rfl rfl (oV c W (h.ok w hw) (h.nd w hw)) (.inl ⟨rfl,rfl⟩)) (lp ?_ ?_)
  ·
   refine bm (a:=.sh (.int one)) (b:=.sh (.int one)) (bm (a:=.sh (am w.1)) (b:=.sh (.int 0)) (ln rfl) rfl ?_) rfl (by simp)
   have:=h.hd w hw
   rw [List.head?_eq_getElem?] at this
   simp [am,di,this]
  ·
   refine bm (a:=.sh (.int other)) (b:=.sh (.int other)) (bm (a:=.sh (am w.1)) (b:=.sh (.int (-1))) (ln rfl) rfl ?_) rfl (by simp)
   have:=h.lt w hw
   simp [am,kC,this]))
 rw [List.filter_eq_self.2 (fun _ _=>rfl)] at c1
 have a2:=all_true (f:=aa (bD (aO (ab 1)) (au 0) cJ ((e7 (ao 2 (gC c) (aa (ab 1) (aa (ab 0) ah))) (e7 (ad oEq (ad oIx (ad oIx (ab 0) (ac (.int 0))) (ac (.int 0))) (ab 2)) (ad oEq (ad oIx (ad oIx (ab 0) (ac (.int 0))) (dun e8 (ac (.int 1)))) (ab 3))))) 1 [0,2,3]) ah) (δ:=δ) (xs:=ws) (by rw [aP,c1];rfl)
 refine bA (r:=.sh (.bl true)) hδ (seq1 (δ1:=δ) ?_ (iq a2 rfl)) rfl
 rw [←hδ]
 simp [a1]
theorem lr {n:Int} {T:List Tie} {one other many:Int} {ws:List (Wlk Int Int)} (h:(ws.length:Int)≠many) :
  eM c [aI c n T,.lst (ws.map eWk),.int one,.int other,.int many]=some (.bl false):=by
 have a1:=fY c n one other T
 cases e:bG n one other <;> rw [e] at a1 <;> simp [eM,k7,a1,h]
def ci (ws:List (Wlk Int Int)):D:=.obj c.Ways [("ways",.lst (ws.map eWk))]
theorem kF {A:Type} {a:A}:List.lookup ("ways" : Str) [("ways",a)]=some a:=rfl
theorem ke {n:Int} {T:List Tie} (W:b7 n T) {one other:Int} (h2:bG n one other=true) {ws:List (Wlk Int Int)} (h:lq n T one other ws) (nd:(ws.flatMap (·.2)).Nodup) (hl:(ws.flatMap (·.2)).length≤1000) :
  bh c [ci c ws,aI c n T,.int one,.int other,.int ws.length]=some (.bl true):=by
 have a1:=lL c W h2 h
 have a2:=nF c ws hl
 have a3:=h8 c (ws.flatMap (·.2)) hl
 rw [decide_eq_true nd] at a3
 have hf:∀ δ:DSt,ab 0 δ=some (.sh (ci c ws))→cT (isC c.Ways) "ways" (ab 0) δ=some (.sh (.lst (ws.map eWk))):=by
  intro δ hδ
  rw [kP,hδ]
  simp [ci,kF]
 refine bA (r:=.sh (.bl true)) rfl (iq (lp ?_ ?_) rfl) rfl
 ·
  exact call5 (r1:=.sh (aI c n T)) (r2:=.sh (.lst (ws.map eWk))) (r3:=.sh (.int one)) (r4:=.sh (.int other)) (r5:=.sh (.int ws.length)) rfl (hf _ rfl) rfl rfl rfl a1 (.inl ⟨rfl,rfl,rfl,rfl,rfl⟩)
 ·
  generalize ws.flatMap (·.2)=q at a2 a3
  exact ld (r1:=.sh (am q)) (ld (r1:=.sh (.lst (ws.map eWk))) (hf _ rfl) a2 (.inl rfl)) a3 (.inl rfl)
theorem jC {n:Int} {T:List Tie} {one other many:Int} {ws:List (Wlk Int Int)} (h:(ws.length:Int)≠many) :
  bh c [ci c ws,aI c n T,.int one,.int other,.int many]=some (.bl false):=by
 have a1:=lr c (n:=n) (T:=T) (one:=one) (other:=other) h
 have hf:∀ δ:DSt,ab 0 δ=some (.sh (ci c ws))→cT (isC c.Ways) "ways" (ab 0) δ=some (.sh (.lst (ws.map eWk))):=by
  intro δ hδ
  rw [kP,hδ]
  simp [ci,kF]
 refine bA (r:=.sh (.bl false)) rfl (iq ?_ rfl) rfl
 rw [dand_e,call5 (r1:=.sh (aI c n T)) (r2:=.sh (.lst (ws.map eWk))) (r3:=.sh (.int one)) (r4:=.sh (.int other)) (r5:=.sh (.int many)) rfl (hf _ rfl) rfl rfl rfl a1 (.inl ⟨rfl,rfl,rfl,rfl,rfl⟩)]
 rfl
theorem jD (ns:List Int):(ns.map D.int).all D.flat=true:=by
 rw [List.all_map];simp [Function.comp_def]
theorem kf (ws:List (Wlk Int Int)) (h:ws.length≤1000):c9 c [.lst (ws.map eWk)]=some (.lst (ws.map eWk)):=by
 have b2:(2:Nat)≤big:=by decide
 have hb:ws.length≤big:=by rw [bO];omega
 have cm:=oh (au 0) cJ (ntup (eI (fz (aA iH (aa (ad oIx (ab 0) (ac (.int 0))) ah))) (eI (fz (aA iH (aa (ad oIx (ab 0) (ac (.int 1))) ah))) md))) (dIn 1 [] [some (.sh (.lst (ws.map eWk)))]) eWk (fun _=>true) eWk ws (fun w _=>by
  refine ⟨_,rfl,rfl,fun _=>?_⟩
  have f1:=jD w.1
  have f2:=jD w.2
  simp only [List.all_map] at f1 f2
  simp [dIn,eWk,aG,di,cZ,Enc.int,b2] at f1 f2 ⊢)
 rw [List.filter_eq_self.2 (fun _ _=>rfl)] at cm
 simp [c9,gD,hb]
 erw [cm]
 rfl
theorem nG (ws:List (Wlk Int Int)) (h:ws.length≤1000):dS c [.lst (ws.map eWk)]=some [(("ways" : Str),D.lst (ws.map eWk))]:=by
 have:=kf c ws h
 refine m5 fun p=>?_
 simp [iU,f9,this]
theorem nH (ps:List Int):dU c [am ps]=some [(("points" : Str),am ps)]:=by
 refine m5 fun p=>?_
 have f1:=jD ps
 simp only [List.all_map] at f1
 simp [iU,ga,am] at f1 ⊢
end Pg
end
section
set_option linter.all false
set_option Elab.async false
set_option maxRecDepth 100000
namespace Pg
open PySem PySem.Spec L2 Ew Mx
variable (c:CA)
theorem oW {n:Int} {t:Tie} (h:0≤t.1∧t.1<t.2∧t.2<n):fF c [aK t,.int n]=some (.bl true):=by
 have h1:=cy c t.1
 have h2:=cy c t.2
 have e1:(0:Int)≤t.1:=h.1
 have e2:t.1<t.2:=h.2.1
 have e3:t.2<n:=h.2.2
 simp [fF,oO,av,eH,bJ,di,cZ,h1,h2,e1,e2,e3]
theorem oX {n:Int} {T:List Tie} (W:b7 n T):bF c [.int n,.lst (T.map aK)]=some [((("points" : Str)),D.int n),(("pairs" : Str),D.lst (T.map aK))]:=by
 obtain ⟨w1,w2,w3,w4⟩:=W
 refine m5 fun p=>?_
 have b2:(2:Nat)≤big:=by decide
 have hb:T.length≤big:=by rw [bO];omega
 have hn:=cy c n
 have cm:=oh (au 0) cJ (ntup (eI (fz (ad oIx (ab 0) (ac (.int 0)))) (eI (fz (ad oIx (ab 0) (ac (.int 1)))) md))) (dIn 1 [] [some (.on p (.obj c.Web [(("points" : Str),D.int n)])),some (.sh (.int n)),some (.sh (.lst (T.map aK)))]) aK (fun _=>true) aK T (fun t _=>by
  refine ⟨_,rfl,rfl,fun _=>?_⟩
  simp [dIn,di,cZ,b2])
 rw [List.filter_eq_self.2 (fun _ _=>rfl)] at cm
 have c1:=bY (fi:=aO (ab 2)) (g:=au 0) (t:=cJ) (fe:=ao 2 (fF c) (aa (ab 0) (aa (ab 1) ah))) (m:=1) (ix:=[1]) (δ:=[some (.on p (.obj c.Web [])),some (.sh (.int n)),some (.sh (.lst (T.map aK)))]) (items:=T.map aK) rfl (by simp;omega) (bW _ _ _ _ aK (fun _=>true) (fun _=>D.bl true) T (fun t ht=>by
  refine ⟨_,rfl,rfl,fun _=>⟨.sh (.bl true),?_,rfl,rfl⟩⟩
  exact dl (r1:=.sh (aK t)) (r2:=.sh (.int n)) rfl rfl (oW c (w4 t ht)) (.inl ⟨rfl,rfl⟩)))
 rw [List.filter_eq_self.2 (fun _ _=>rfl)] at c1
 have a1:=all_true (f:=aa (bD (aO (ab 2)) (au 0) cJ (ao 2 (fF c) (aa (ab 0) (aa (ab 1) ah))) 1 [1]) ah) (δ:=[some (.on p (.obj c.Web [])),some (.sh (.int n)),some (.sh (.lst (T.map aK)))]) (xs:=T) (by rw [aP,c1];rfl)
 have hF:da c [some (.on p (.obj c.Web [])),some (.sh (.int n)),some (.sh (.lst (T.map aK)))]=some (.nx [some (.on p (.obj c.Web [(("points" : Str),D.int n),(("pairs" : Str),D.lst (T.map aK))])),some (.sh (.int n)),some (.sh (.lst (T.map aK)))]):=by
  refine seq1 (δ1:=[some (.on p (.obj c.Web [])),some (.sh (.int n)),some (.sh (.lst (T.map aK)))]) ?_ (seq1 (δ1:=[some (.on p (.obj c.Web [])),some (.sh (.int n)),some (.sh (.lst (T.map aK)))]) ?_ (seq1 (δ1:=[some (.on p (.obj c.Web [])),some (.sh (.int n)),some (.sh (.lst (T.map aK)))]) ?_ (seq1 (δ1:=[some (.on p (.obj c.Web [(("points" : Str),D.int n)])),some (.sh (.int n)),some (.sh (.lst (T.map aK)))]) ?_ ?_)))
  ·
   simp [hn,w1,w2]
  ·
   have:¬((14:Int)<(T.length:Int)):=by omega
   simp [av,cn,this]
  ·
   rw [dX,gR,cg,a1];rfl
  ·
   simp
  ·
   have hlk:List.lookup ("pairs" : Str) [(("points" : Str),D.int n)]=none:=rfl
   simp [hlk,hb]
   erw [cm]
   rfl
 have e:iU 3 c.Web (da c) [.int n,.lst (T.map aK)] p=(match da c [some (.on p (.obj c.Web [])),some (.sh (.int n)),some (.sh (.lst (T.map aK)))] with
  | some (.nx (some (.on a (.obj C' fs))::_))=>if a=p∧C'=c.Web then some fs else none
  | _=>none):=rfl
 rw [e,hF]
 simp
theorem oY {n:Int} {T:List Tie} (W:b7 n T) {fr:DSt→Option (List R)} {δ:DSt} {r1 r2:R} (h:fr δ=some [r1,r2]) (h1:r1.view=.int n) (h2:r2.view=.lst (T.map aK)) (b1:r1.isBw=false) (b2:r2.isBw=false) :
  f6 c.Web 2 (bF c) fr δ=some (aI c n T):=by
 simp only [nmake_e,h,Option.bind_some,List.map_cons,List.map_nil,h1,h2,oX c W,ma,n9,b1,b2]
 simp [aI]
def CNe:Prop:=c.Ways≠c.Part∧c.Ways≠c.Web∧c.Part≠c.Web
theorem lu (hc:CNe c) {n:Int} {T:List Tie} {one other:Int} (h:bG n one other=true):cE c [aI c n T,.int one,.int other]=some (.bl true):=by
 have a1:=fY c n one other T
 rw [h] at a1
 have h1:=cy c one
 have h2:=cy c other
 have h3:nh c (aI c n T)=some true:=by
  unfold aI nh
  simp [Ne.symm hc.2.1,Ne.symm hc.2.2]
 simp [cE,gc,av,h3,h1,h2,a1]
theorem jE (hc:CNe c) {n:Int} {T:List Tie} {one other:Int} (h:bG n one other=true):cF c [aI c n T,.int one,.int other]=some .non:=by
 have:=lu c hc (T:=T) h
 simp [cF,gd,this]
theorem kg {many most:Int} (h1:1≤many) (h2:many≤most):db c [.int many,.int most]=some .non:=by
 have:=cy c many
 simp [db,gG,this,h1,h2]
def be (T:List Tie) (ws:List (Wlk Int Int)) (one:Int):List Int:=reach 100 ((az (aq T) (ws.flatMap al)).map fun s=>(s.1,s.2.1)) one
theorem nI (ns:List Int) (h:ns.length<64):gQ (.lst (ns.map .int))=some (.fr ((srt ns).map .int)):=by
 show (nums (ns.map .int)).bind _=_
 rw [eD]
 simp [h]
theorem dd {P N:Type}:∀ {ws:List (Wlk P N)},(∀ w∈ws,w.1.length=w.2.length+1)→(ws.flatMap al).length=(ws.flatMap (·.2)).length
 | [],_=>rfl
 | w::ws,h=>by
  simp only [List.flatMap_cons,List.length_append]
  rw [dd (ws:=ws) fun w' hw'=>h w' (by simp [hw'])]
  have:=h w (by simp)
  unfold al
  simp
  omega
theorem jW {n:Int} {T:List Tie} (W:b7 n T) {one other:Int} (h:bG n one other=true) (m:Nat) (hm:m≤14) :
  gX (aq T) one other m (ax 100 100 (aq T) one other m):=by
 have hl:=cR T
 have:=W.2.2.1
 refine apart_ok (eC T) ?_ (by omega) (by omega)
 unfold bG at h
 simp at h
 exact h.2.2
theorem sw_ways {n:Int} {T:List Tie} (W:b7 n T) {one other:Int} (h:bG n one other=true) {ends:List Int} {w:Wlk Int Int} (sw:Sw (aq T) ends one other w.1 w.2):gJ n T w:=by
 have hnn:=sw.namesNodup (eC T)
 refine ⟨sw.len,?_,fun s hs=>(sw.step s hs).1,?_⟩
 ·
  unfold bG gI at h
  simp at h
  have key:∀ {b:Int} {ps ns:List Int},Sw (aq T) ends one b ps ns→∀ p∈ps,0≤p∧p<n:=by
   intro b ps ns hh
   induction hh with
   | nil=>intro p hp;simp at hp;rw [hp];exact h.1
   | snoc h1 h2 _ _ ih=>
    intro p hp
    simp at hp
    rcases hp with hp | hp
    ·
     exact ih p hp
    ·
     rw [hp];have:=iu W _ h2;exact ⟨this.2.2.1,this.2.2.2⟩
  exact key sw
 ·
  have h1:=List.Nodup.length_le_of_subset sw.stepsNodup (l₂:=aq T) (fun s hs=>(sw.step s hs).1)
  have h2:=congrArg List.length sw.names
  simp at h2
  have:=cR T
  have:=W.2.2.1
  omega
theorem ways_ok {n:Int} {T:List Tie} (W:b7 n T) {one other:Int} (h:bG n one other=true) {m:Nat} (hm:m≤14) {ws:List (Wlk Int Int)} (A:gX (aq T) one other m ws):lq n T one other ws:=by
 refine ⟨fun w hw=>sw_ways W h (A.ok w hw),fun w hw=>(A.ok w hw).nodup,fun w hw=>(A.ok w hw).head,fun w hw=>(A.ok w hw).last,?_⟩
 have:=A.le
 omega
theorem jg {n:Int} {T:List Tie} (W:b7 n T) {one other:Int} {m:Nat} {ws:List (Wlk Int Int)} (A:gX (aq T) one other m ws):(ws.flatMap (·.2)).length≤28:=by
 have h1:=im A.ok
 have h2:(ws.flatMap al).Nodup:=cp (by rw [h1];exact A.nd)
 have h3:=List.Nodup.length_le_of_subset h2 (l₂:=aq T) (by
  intro s hs
  obtain ⟨w,hw,hsw⟩:=List.mem_flatMap.1 hs
  exact ((A.ok w hw).step s hsw).1)
 rw [←h1,List.length_map]
 have:=cR T
 have:=W.2.2.1
 omega
theorem apart_eq (hc:CNe c) {n:Int} {T:List Tie} (W:b7 n T) {one other:Int} (h:bG n one other=true) (m:Nat) (h1:1≤m) (hm:m≤14) (hs:(be T (ax 100 100 (aq T) one other m) one).length<64) :
  jc c [aI c n T,.int one,.int other,.int m]=some (if (ax 100 100 (aq T) one other m).length=m then ci c (ax 100 100 (aq T) one other m) else bT c (srt (be T (ax 100 100 (aq T) one other m) one))):=by
 have A:=jW W h m hm
 have hl:=cR T
 have hT:=W.2.2.1
 have hne:one≠other:=by unfold bG at h;simp at h;exact h.2.2
 have d1:=jE c hc (T:=T) h
 have d2:=kg c (many:=m) (most:=14) (by omega) (by omega)
 have d3:=oS c n T (by omega)
 have d4:dL c [.lst ((aq T).map eSt),.int one,.int other,.int m]=some (.lst ((ax 100 100 (aq T) one other m).map eWk)):=lh c Enc.int Enc.int (by decide) (by decide) hne (eC T) (by omega) m (by omega)
 have hwl:∀ w∈ax 100 100 (aq T) one other m,w.1.length=w.2.length+1:=fun w hw=>(A.ok w hw).len
 have d5:fE c [.lst ((aq T).map eSt),.lst ((ax 100 100 (aq T) one other m).map eWk),.int one]=some (am (be T (ax 100 100 (aq T) one other m) one)):=pF c Enc.int Enc.int (by decide) (by decide) (aq T) _ one hwl (by omega) (by
  rw [dd hwl]
  have:=jg W A
  omega)
 have hle:=A.le
 generalize ax 100 100 (aq T) one other m=ws at *
 have hF:kD c [some (.sh (aI c n T)),some (.sh (.int one)),some (.sh (.int other)),some (.sh (.int m)),none,none]=some (.rn (if ws.length=m then ci c ws else bT c (srt (be T ws one)))):=by
  refine seq1 (δ1:=[some (.sh (aI c n T)),some (.sh (.int one)),some (.sh (.int other)),some (.sh (.int m)),none,none]) ?_ ?_
  ·
   unfold mj
   rw [mw (r1:=.sh (aI c n T)) (r2:=.sh (.int one)) (r3:=.sh (.int other)) rfl rfl rfl d1 (.inl ⟨rfl,rfl,rfl⟩)]
   rfl
  refine seq1 (δ1:=[some (.sh (aI c n T)),some (.sh (.int one)),some (.sh (.int other)),some (.sh (.int m)),none,none]) ?_ ?_
  ·
   unfold mj
   rw [dl (r1:=.sh (.int m)) (r2:=.sh (.int 14)) rfl rfl d2 (.inl ⟨rfl,rfl⟩)]
   rfl
  refine seq1 (dF (ld (r1:=.sh (aI c n T)) rfl d3 (.inl rfl)) rfl rfl) ?_
  refine seq1 (dF (call4 (r1:=.sh (.lst ((aq T).map eSt))) (r2:=.sh (.int one)) (r3:=.sh (.int other)) (r4:=.sh (.int m)) rfl rfl rfl rfl d4 (.inl ⟨rfl,rfl,rfl,rfl⟩)) rfl rfl) ?_
  by_cases hcnt:ws.length=m
  ·
   have w1:=nG c ws (by omega)
   rw [if_pos hcnt,ii,dX]
   have t1:(aj (ad oEq (aA bJ (aa (ab 5) ah)) (ab 3))) [some (.sh (aI c n T)),some (.sh (.int one)),some (.sh (.int other)),some (.sh (.int m)),some (.sh (.lst ((aq T).map eSt))),some (.sh (.lst (ws.map eWk)))]=some true:=by
    simp [hcnt]
   erw [t1]
   simp [w1,ci]
  ·
   have w1:=nH c (srt (be T ws one))
   refine seq1 (δ1:=[some (.sh (aI c n T)),some (.sh (.int one)),some (.sh (.int other)),some (.sh (.int m)),some (.sh (.lst ((aq T).map eSt))),some (.sh (.lst (ws.map eWk)))]) ?_ ?_
   ·
    have t1:(aj (ad oEq (aA bJ (aa (ab 5) ah)) (ab 3))) [some (.sh (aI c n T)),some (.sh (.int one)),some (.sh (.int other)),some (.sh (.int m)),some (.sh (.lst ((aq T).map eSt))),some (.sh (.lst (ws.map eWk)))]=some false:=by
     simp
     omega
    rw [dX]
    erw [t1]
    rfl
   ·
    have hcall:=mw (m:=fE c) (f1:=ab 4) (f2:=ab 5) (f3:=ab 1) (δ:=[some (.sh (aI c n T)),some (.sh (.int one)),some (.sh (.int other)),some (.sh (.int m)),some (.sh (.lst ((aq T).map eSt))),some (.sh (.lst (ws.map eWk)))]) (r1:=.sh (.lst ((aq T).map eSt))) (r2:=.sh (.lst (ws.map eWk))) (r3:=.sh (.int one)) rfl rfl rfl d5 (.inl ⟨rfl,rfl,rfl⟩)
    rw [if_neg hcnt,sretN_e,nmake_e]
    simp only [aP,iQ]
    erw [hcall]
    have so:=nI (be T ws one) hs
    simp only [am] at so w1
    simp [so,w1,bT,am]
 unfold jc
 have e:runN 6 (kD c) [aI c n T,.int one,.int other,.int m]=(match kD c [some (.sh (aI c n T)),some (.sh (.int one)),some (.sh (.int other)),some (.sh (.int m)),none,none] with
  | some (.rt r)=>r.toN
  | some (.nx _)=>some .non
  | some (.rn d)=>some d
  | _=>none):=rfl
 rw [e,hF]
end Pg
end
section
set_option linter.all false
set_option Elab.async false
set_option maxRecDepth 100000
namespace Pg
open PySem PySem.Spec L2 Ew Mx
variable (c:CA)
theorem mulR {i j:Int} (h0:0≤j) (h1:j≤1000000):cb (.int i) (.int j)=some (.sh (.int (i*j))):=by
 unfold cb
 simp only
 rw [if_pos (.inr ⟨Int.lt_of_lt_of_le (by decide) h0,Int.lt_of_le_of_lt h1 (by decide)⟩)]
theorem mulL {i j:Int} (h0:0≤i) (h1:i≤1000000):cb (.int i) (.int j)=some (.sh (.int (i*j))):=by
 unfold cb
 simp only
 rw [if_pos (.inl ⟨Int.lt_of_lt_of_le (by decide) h0,Int.lt_of_le_of_lt h1 (by decide)⟩)]
theorem modP {i j:Int} (h:0<j):oMod (.int i) (.int j)=some (.sh (.int (i % j))):=by
 unfold oMod
 simp only
 rw [if_pos h]
theorem divP {i j:Int} (h:0<j) (h1:j≤1000000):oDiv (.int i) (.int j)=some (.sh (.int (i / j))):=by
 unfold oDiv
 simp only
 rw [if_pos ⟨h,by omega⟩]
def gK:List Int:=[1000003,1000033,1000037,1000039,1000081,1000099,1000117,1000121,1000133,1000151,1000159,1000171,1000183,1000187,1000193,1000199]
theorem draw_eq (cell:Int) (k:Nat) (hk:k<16) {many:Int} (hm:0<many):∃ r,aC c [.int cell,.int k,.int many]=some (.int r)∧0≤r∧r<many:=by
 obtain ⟨p,hp,hp0⟩ : ∃ p,gK[k]?=some p∧0<p:=by
  have:∀ p∈gK,0<p:=by decide
  exact ⟨gK[k]'(by simpa [gK] using hk),by simp [gK] at hk ⊢,this _ (List.getElem_mem _)⟩
 refine ⟨(cell*48271+(k:Int)*69621) % p % many,?_,Int.emod_nonneg _ (by omega),Int.emod_lt_of_pos _ hm⟩
 have b16:(16:Nat)≤big:=by decide
 have hs:sset 3 (b6 (aa (ac (.int 1000003)) (aa (ac (.int 1000033)) (aa (ac (.int 1000037)) (aa (ac (.int 1000039)) (aa (ac (.int 1000081)) (aa (ac (.int 1000099)) (aa (ac (.int 1000117)) (aa (ac (.int 1000121)) (aa (ac (.int 1000133)) (aa (ac (.int 1000151)) (aa (ac (.int 1000159)) (aa (ac (.int 1000171)) (aa (ac (.int 1000183)) (aa (ac (.int 1000187)) (aa (ac (.int 1000193)) (aa (ac (.int 1000199)) ah))))))))))))))))) [some (.sh (.int cell)),some (.sh (.int k)),some (.sh (.int many)),none] =
   some (.nx [some (.sh (.int cell)),some (.sh (.int k)),some (.sh (.int many)),some (.sh (.tup (gK.map .int)))]):=by
  simp [b16,gK]
 refine bA (r:=.sh (.int _)) rfl (seq1 hs (iq ?_ rfl)) rfl
 refine bm (a:=.sh (.int ((cell*48271+(k:Int)*69621) % p))) (b:=.sh (.int many)) ?_ rfl (modP hm)
 refine bm (a:=.sh (.int (cell*48271+(k:Int)*69621))) (b:=.sh (.int p)) ?_ ?_ (modP hp0)
 ·
  refine bm (a:=.sh (.int (cell*48271))) (b:=.sh (.int ((k:Int)*69621))) ?_ ?_ rfl
  ·
   exact bm (a:=.sh (.int cell)) (b:=.sh (.int 48271)) rfl rfl (mulR (by omega) (by omega))
  ·
   exact bm (a:=.sh (.int k)) (b:=.sh (.int 69621)) rfl rfl (mulR (by omega) (by omega))
 ·
  refine bm (a:=.sh (.tup (gK.map .int))) (b:=.sh (.int (k:Int))) rfl ?_ ?_
  ·
   refine bm (a:=.sh (.int k)) (b:=.sh (.int 16)) rfl rfl ?_
   rw [show oMod (R.sh (D.int (k:Int))).view (R.sh (D.int 16)).view=_ from modP (by omega)]
   congr 3
   omega
  ·
   simp only [bn,oIx_t]
   rw [io,List.getElem?_map,hp]
   rfl
def Good (n:Int) (T:List Tie):Prop:=∀ t∈T,0≤t.1∧t.1<t.2∧t.2<n
theorem oZ {n p q:Int} (h1:0≤p) (h2:p<n) (h3:0≤q) (h4:q<n) (h5:p≠q):0≤(eR p q).1∧(eR p q).1<(eR p q).2∧(eR p q).2<n:=by
 unfold eR
 simp only
 omega
theorem mE {n:Int} {T:List Tie} {t:Tie} (h:Good n T) (ht:0≤t.1∧t.1<t.2∧t.2<n):Good n (T++[t]):=by
 intro u hu
 simp at hu
 rcases hu with hu | rfl
 ·
  exact h u hu
 ·
  exact ht
theorem lv {n:Int} {B:FS} {e0 e1 e2 e3 e5 e9:Option E} (ok:D→Prop)
  (hB:∀ d (T:List Tie) (x7 x8:Option E),ok d→Good n T→T.length≤900→∃ (T':List Tie) (y7 y8:Option E),B [e0,e1,e2,e3,some (.ow (T.map aK)),e5,some (.sh d),x7,x8,e9]=some (.nx [e0,e1,e2,e3,some (.ow (T'.map aK)),e5,some (.sh d),y7,y8,e9])∧Good n T'∧T'.length≤T.length+1) :
  ∀ (ds:List D) (T:List Tie) (x6 x7 x8:Option E),(∀ d∈ds,ok d)→Good n T→T.length+ds.length≤900→
  ∃ (T':List Tie) (y6 y7 y8:Option E),bu (au 6) B ds [e0,e1,e2,e3,some (.ow (T.map aK)),e5,x6,x7,x8,e9]=some (.nx [e0,e1,e2,e3,some (.ow (T'.map aK)),e5,y6,y7,y8,e9])∧Good n T'∧T'.length≤T.length+ds.length
 | [],T,x6,x7,x8,_,hT,_=>⟨T,x6,x7,x8,rfl,hT,by simp⟩
 | d::ds,T,x6,x7,x8,hd,hT,hl=>by
  simp at hl
  obtain ⟨T1,y7,y8,h1,h2,h3⟩:=hB d T x7 x8 (hd d (by simp)) hT (by omega)
  obtain ⟨T',z6,z7,z8,i1,i2,i3⟩:=lv ok hB ds T1 (some (.sh d)) y7 y8 (fun d' h=>hd d' (by simp [h])) h2 (by omega)
  refine ⟨T',z6,z7,z8,?_,i2,by simp;omega⟩
  unfold bu
  have hg:au 6 d [e0,e1,e2,e3,some (.ow (T.map aK)),e5,x6,x7,x8,e9]=some [e0,e1,e2,e3,some (.ow (T.map aK)),e5,some (.sh d),x7,x8,e9]:=rfl
  rw [hg]
  simp only [Option.bind_some]
  rw [h1]
  simp only [Option.bind_some,cG]
  exact i1
theorem turn_ne {n t k:Int} (h1:2≤n) (h2:n≤8) (ht:t=1∨((t=3∨t=5∨t=7)∧n % t≠0)):k*t % n≠(k+1)*t % n:=by
 have hn:n=2∨n=3∨n=4∨n=5∨n=6∨n=7∨n=8:=by omega
 rcases ht with rfl | ⟨rfl | rfl | rfl,hm⟩ <;> rcases hn with rfl | rfl | rfl | rfl | rfl | rfl | rfl <;> omega
theorem app_tie {n p q:Int} {T:List Tie} {e0 e1 e2 e3 e5 e6 e9:Option E} (hl:T.length≤900) :
  dg 4 (b6 (aa (aY dh (aa (ab 7) (aa (ab 8) ah))) (aa (aY eG (aa (ab 7) (aa (ab 8) ah))) ah))) [e0,e1,e2,e3,some (.ow (T.map aK)),e5,e6,some (.sh (.int p)),some (.sh (.int q)),e9] =
   some (.nx [e0,e1,e2,e3,some (.ow ((T++[eR p q]).map aK)),e5,e6,some (.sh (.int p)),some (.sh (.int q)),e9]):=by
 have b2:(2:Nat)≤big:=by decide
 have b:T.length≤big:=by rw [bO];omega
 simp [dg,b2,b,eR,←je,←kE]
theorem rngE {f:FE} {δ:DSt} {j:Int} (h:f δ=some (.sh (.int j))) (h2:j≤1000000) (h1:-1000000≤j):(eS (aa f ah)) δ=some ((List.range j.toNat).map fun k=>D.int (0+((k:Nat):Int))):=by
 have hc:-(2 ^ 62:Int)≤j∧j<2 ^ 62:=⟨Int.le_trans (by decide) h1,Int.lt_of_le_of_lt h2 (by decide)⟩
 unfold eS
 simp only [aP,dQ,h,Option.bind_some]
 rw [if_pos hc]
theorem cut14 (ds:List D):cutD ds none (some 14)=ds.take 14:=by
 unfold cutD HT.sIx
 simp
end Pg
end
section
set_option linter.all false
set_option Elab.async false
set_option maxRecDepth 100000
namespace Pg
open PySem PySem.Spec L2 Ew Mx
variable (c:CA)
def ay (n:Int) (T:List Tie):D:=.tup [.int n,.lst (T.map aK)]
theorem jh {ks:List Int} {r:Int} (h0:0≤r) (h1:r<(ks.length:Int)) (p:Int→Prop) (hp:∀ k∈ks,p k):∃ v,oIx (.tup (ks.map .int)) (.int r)=some (.sh (.int v))∧p v:=by
 have hr:r.toNat<ks.length:=by omega
 refine ⟨ks[r.toNat],?_,hp _ (List.getElem_mem _)⟩
 rw [oIx_t,jf h0,List.getElem?_map,List.getElem?_eq_getElem hr]
 rfl
theorem ge {fa fm:FE} {δ:DSt} {cell many:Int} (k:Int) (hk:0≤k∧k<16) (h1:fa δ=some (.sh (.int cell))) (h2:fm δ=some (.sh (.int many))) (hm:0<many) :
  ∃ r,ao 3 (aC c) (aa fa (aa (ac (.int k)) (aa fm ah))) δ=some (.sh (.int r))∧0≤r∧r<many:=by
 obtain ⟨r,e,r0,r1⟩:=draw_eq c cell k.toNat (by omega) hm
 rw [show ((k.toNat:Nat):Int)=k by omega] at e
 exact ⟨r,mw (r1:=.sh (.int cell)) (r2:=.sh (.int k)) (r3:=.sh (.int many)) h1 rfl h2 e (.inl ⟨rfl,rfl,rfl⟩),r0,r1⟩
theorem told_eq (cell least:Int) (hl:1≤least) (hl2:least≤8):∃ n T,fV c [.int cell,.int least]=some (ay n T)∧b7 n T∧least≤n:=by
 have b8:(8:Nat)≤big:=by decide
 have b4:(4:Nat)≤big:=by decide
 have b2:(2:Nat)≤big:=by decide
 obtain ⟨r1,d1,p1,q1⟩:=ge c (fa:=ab 0) (fm:=ac (.int 8)) (δ:=[some (.sh (.int cell)),some (.sh (.int least)),none,none,none,none,none,none,none,none]) (cell:=cell) (many:=8) 1 (by omega) rfl rfl (by omega)
 obtain ⟨v1,x1,y1⟩:=jh (ks:=[4,5,3,6,2,7,1,8]) p1 (by simpa using q1) (fun v=>1≤v∧v≤8) (by decide)
 have s1:sset 2 (aY eG (aa (ab 1) (aa (ad oIx (b6 (aa (ac (.int 4)) (aa (ac (.int 5)) (aa (ac (.int 3)) (aa (ac (.int 6)) (aa (ac (.int 2)) (aa (ac (.int 7)) (aa (ac (.int 1)) (aa (ac (.int 8)) ah))))))))) (ao 3 (aC c) (aa (ab 0) (aa (ac (.int 1)) (aa (ac (.int 8)) ah))))) ah))) [some (.sh (.int cell)),some (.sh (.int least)),none,none,none,none,none,none,none,none] =
   some (.nx [some (.sh (.int cell)),some (.sh (.int least)),some (.sh (.int (max least v1))),none,none,none,none,none,none,none]):=by
  have hx:ad oIx (b6 (aa (ac (.int 4)) (aa (ac (.int 5)) (aa (ac (.int 3)) (aa (ac (.int 6)) (aa (ac (.int 2)) (aa (ac (.int 7)) (aa (ac (.int 1)) (aa (ac (.int 8)) ah))))))))) (ao 3 (aC c) (aa (ab 0) (aa (ac (.int 1)) (aa (ac (.int 8)) ah)))) [some (.sh (.int cell)),some (.sh (.int least)),none,none,none,none,none,none,none,none]=some (.sh (.int v1)):=bm (a:=.sh (.tup [.int 4,.int 5,.int 3,.int 6,.int 2,.int 7,.int 1,.int 8])) (by simp [b8]) d1 x1
  refine dF (r:=.sh (.int (max least v1))) ?_ rfl rfl
  rw [kQ,aP,aP,hx]
  simp [←kE]
 generalize hn:max least v1=n at s1
 have n1:1≤n:=by omega
 have n8:n≤8:=by omega
 obtain ⟨kind,d2,k0,k4⟩:=ge c (fa:=ab 0) (fm:=ac (.int 4)) (δ:=[some (.sh (.int cell)),some (.sh (.int least)),some (.sh (.int n)),none,none,none,none,none,none,none]) (cell:=cell) (many:=4) 2 (by omega) rfl rfl (by omega)
 have s2:=dF (i:=3) d2 rfl (δ':=[some (.sh (.int cell)),some (.sh (.int least)),some (.sh (.int n)),some (.sh (.int kind)),none,none,none,none,none,none]) rfl
 have s3:sset 4 (cA ah) [some (.sh (.int cell)),some (.sh (.int least)),some (.sh (.int n)),some (.sh (.int kind)),none,none,none,none,none,none]=some (.nx [some (.sh (.int cell)),some (.sh (.int least)),some (.sh (.int n)),some (.sh (.int kind)),some (.ow []),none,none,none,none,none]):=by simp
 obtain ⟨r3,d3,p3,q3⟩:=ge c (fa:=ab 0) (fm:=ac (.int 4)) (δ:=[some (.sh (.int cell)),some (.sh (.int least)),some (.sh (.int n)),some (.sh (.int kind)),some (.ow []),none,none,none,none,none]) (cell:=cell) (many:=4) 3 (by omega) rfl rfl (by omega)
 obtain ⟨t0,x3,y3⟩:=jh (ks:=[1,3,5,7]) p3 (by simpa using q3) (fun v=>v=1∨v=3∨v=5∨v=7) (by decide)
 have s4:sset 5 (ad oIx (b6 (aa (ac (.int 1)) (aa (ac (.int 3)) (aa (ac (.int 5)) (aa (ac (.int 7)) ah))))) (ao 3 (aC c) (aa (ab 0) (aa (ac (.int 3)) (aa (ac (.int 4)) ah))))) [some (.sh (.int cell)),some (.sh (.int least)),some (.sh (.int n)),some (.sh (.int kind)),some (.ow []),none,none,none,none,none] =
   some (.nx [some (.sh (.int cell)),some (.sh (.int least)),some (.sh (.int n)),some (.sh (.int kind)),some (.ow []),some (.sh (.int t0)),none,none,none,none]):=dF (bm (a:=.sh (.tup [.int 1,.int 3,.int 5,.int 7])) (by simp [b4]) d3 x3) rfl rfl
 have t0p:0<t0:=by omega
 obtain ⟨t,s5,ht⟩ : ∃ t,sif ((fv (aj (ad oEq (ad oMod (ab 2) (ab 5)) (ac (.int 0)))) (aj (ad oGt (ab 5) (ac (.int 1)))))) (sset 5 (ac (.int 1))) aD [some (.sh (.int cell)),some (.sh (.int least)),some (.sh (.int n)),some (.sh (.int kind)),some (.ow []),some (.sh (.int t0)),none,none,none,none] =
   some (.nx [some (.sh (.int cell)),some (.sh (.int least)),some (.sh (.int n)),some (.sh (.int kind)),some (.ow []),some (.sh (.int t)),none,none,none,none])∧(t=1∨((t=3∨t=5∨t=7)∧n % t≠0)):=by
  by_cases h1:n % t0=0
  ·
   by_cases h2:1<t0
   ·
    exact ⟨1,by simp [modP t0p,h1,h2],.inl rfl⟩
   ·
    exact ⟨t0,by simp [modP t0p,h1,h2],.inl (by omega)⟩
  ·
   refine ⟨t0,by simp [modP t0p,h1],?_⟩
   rcases y3 with rfl | h
   ·
    exact .inl rfl
   ·
    exact .inr ⟨h,h1⟩
 have tp:0<t∧t≤7:=by omega
 obtain ⟨T1,a6,a7,a8,s6,g1,l1⟩ : ∃ (T1:List Tie) (a6 a7 a8:Option E),sif ((fv (aj (ad oGt (ab 3) (ac (.int 0)))) (aj (ad oGt (ab 2) (ac (.int 1)))))) (bV (eS (aa (ad aZ (ad oSub (ab 2) (ac (.int 1))) (aY dh (aa (ad oSub (ab 3) (ac (.int 1))) (aa (ac (.int 1)) ah)))) ah)) (au 6) (ar (lZ 7 8 (ad oMod (ad cb (ab 6) (ab 5)) (ab 2)) (ad oMod (ad cb (ad aZ (ab 6) (ac (.int 1))) (ab 5)) (ab 2))) (dg 4 (b6 (aa (aY dh (aa (ab 7) (aa (ab 8) ah))) (aa (aY eG (aa (ab 7) (aa (ab 8) ah))) ah)))))) aD
   [some (.sh (.int cell)),some (.sh (.int least)),some (.sh (.int n)),some (.sh (.int kind)),some (.ow []),some (.sh (.int t)),none,none,none,none] =
   some (.nx [some (.sh (.int cell)),some (.sh (.int least)),some (.sh (.int n)),some (.sh (.int kind)),some (.ow (T1.map aK)),some (.sh (.int t)),a6,a7,a8,none])∧Good n T1∧T1.length≤100:=by
  by_cases h1:0<kind
  ·
   by_cases h2:1<n
   ·
    have hf:(ad aZ (ad oSub (ab 2) (ac (.int 1))) (aY dh (aa (ad oSub (ab 3) (ac (.int 1))) (aa (ac (.int 1)) ah)))) [some (.sh (.int cell)),some (.sh (.int least)),some (.sh (.int n)),some (.sh (.int kind)),some (.ow []),some (.sh (.int t)),none,none,none,none]=some (.sh (.int (n-1+min (kind-1) 1))):=by
     simp [←je]
    have hr:=rngE hf (by omega) (by omega)
    obtain ⟨T',y6,y7,y8,i1,i2,i3⟩:=lv (n:=n) (e0:=some (.sh (.int cell))) (e1:=some (.sh (.int least))) (e2:=some (.sh (.int n))) (e3:=some (.sh (.int kind))) (e5:=some (.sh (.int t))) (e9:=none)
     (B:=ar (lZ 7 8 (ad oMod (ad cb (ab 6) (ab 5)) (ab 2)) (ad oMod (ad cb (ad aZ (ab 6) (ac (.int 1))) (ab 5)) (ab 2))) (dg 4 (b6 (aa (aY dh (aa (ab 7) (aa (ab 8) ah))) (aa (aY eG (aa (ab 7) (aa (ab 8) ah))) ah)))))
     (fun d=>∃ k:Int,d=.int k) (by
      rintro d T x7 x8 ⟨k,rfl⟩ hT hTl
      refine ⟨T++[eR (k*t % n) ((k+1)*t % n)],_,_,seq1 (δ1:=[some (.sh (.int cell)),some (.sh (.int least)),some (.sh (.int n)),some (.sh (.int kind)),some (.ow (T.map aK)),some (.sh (.int t)),some (.sh (.int k)),some (.sh (.int (k*t % n))),some (.sh (.int ((k+1)*t % n))),none]) ?_ (app_tie (n:=n) hTl),?_,by simp⟩
      ·
       have m1:cb (.int k) (.int t)=some (.sh (.int (k*t))):=mulR (by omega) (by omega)
       have m2:cb (.int (k+1)) (.int t)=some (.sh (.int ((k+1)*t))):=mulR (by omega) (by omega)
       have m3:∀ i:Int,oMod (.int i) (.int n)=some (.sh (.int (i % n))):=fun i=>modP (by omega)
       simp [lZ,m1,m2,m3]
      ·
       refine mE hT (oZ (Int.emod_nonneg _ (by omega)) (Int.emod_lt_of_pos _ (by omega)) (Int.emod_nonneg _ (by omega)) (Int.emod_lt_of_pos _ (by omega)) (turn_ne (by omega) n8 ht)))
     ((List.range (n-1+min (kind-1) 1).toNat).map fun k=>D.int (0+((k:Nat):Int))) [] none none none (by
      intro d hd
      obtain ⟨k,_,rfl⟩:=List.mem_map.1 hd
      exact ⟨_,rfl⟩) (by intro u hu;simp at hu) (by simp;omega)
    refine ⟨T',y6,y7,y8,?_,i2,by simp at i3;omega⟩
    rw [dX]
    have ht:(fv (aj (ad oGt (ab 3) (ac (.int 0)))) (aj (ad oGt (ab 2) (ac (.int 1))))) [some (.sh (.int cell)),some (.sh (.int least)),some (.sh (.int n)),some (.sh (.int kind)),some (.ow []),some (.sh (.int t)),none,none,none,none]=some true:=by simp [h1,h2]
    rw [ht]
    simp only [Option.bind_some]
    rw [if_pos trivial]
    unfold bV
    rw [hr]
    exact i1
   ·
    exact ⟨[],none,none,none,by simp [h1,h2],by intro u hu;simp at hu,by simp⟩
  ·
   exact ⟨[],none,none,none,by simp [h1],by intro u hu;simp at hu,by simp⟩
 obtain ⟨v9,x9,y9⟩:=jh (ks:=[9,4]) (r:=min kind 1) (by omega) (by simp;omega) (fun v=>0<v∧v≤15) (by decide)
 have s7:sset 9 (ad oIx (b6 (aa (ac (.int 9)) (aa (ac (.int 4)) ah))) (aY dh (aa (ab 3) (aa (ac (.int 1)) ah)))) [some (.sh (.int cell)),some (.sh (.int least)),some (.sh (.int n)),some (.sh (.int kind)),some (.ow (T1.map aK)),some (.sh (.int t)),a6,a7,a8,none] =
   some (.nx [some (.sh (.int cell)),some (.sh (.int least)),some (.sh (.int n)),some (.sh (.int kind)),some (.ow (T1.map aK)),some (.sh (.int t)),a6,a7,a8,some (.sh (.int v9))]):=dF (bm (a:=.sh (.tup [.int 9,.int 4])) (b:=.sh (.int (min kind 1))) (by simp [b2]) (by simp [←je]) x9) rfl rfl
 obtain ⟨r8,d8,p8,q8⟩:=ge c (fa:=ab 0) (fm:=ac (.int 4)) (δ:=[some (.sh (.int cell)),some (.sh (.int least)),some (.sh (.int n)),some (.sh (.int kind)),some (.ow (T1.map aK)),some (.sh (.int t)),a6,a7,a8,some (.sh (.int v9))]) (cell:=cell) (many:=4) 8 (by omega) rfl rfl (by omega)
 obtain ⟨most,s8,hmost⟩ : ∃ most,sif (aj (ad oEq (ao 3 (aC c) (aa (ab 0) (aa (ac (.int 8)) (aa (ac (.int 4)) ah)))) (ac (.int 0)))) (sset 9 (ac (.int 15))) aD [some (.sh (.int cell)),some (.sh (.int least)),some (.sh (.int n)),some (.sh (.int kind)),some (.ow (T1.map aK)),some (.sh (.int t)),a6,a7,a8,some (.sh (.int v9))] =
   some (.nx [some (.sh (.int cell)),some (.sh (.int least)),some (.sh (.int n)),some (.sh (.int kind)),some (.ow (T1.map aK)),some (.sh (.int t)),a6,a7,a8,some (.sh (.int most))])∧0<most∧most≤15:=by
  have ht:(aj (ad oEq (ao 3 (aC c) (aa (ab 0) (aa (ac (.int 8)) (aa (ac (.int 4)) ah)))) (ac (.int 0)))) [some (.sh (.int cell)),some (.sh (.int least)),some (.sh (.int n)),some (.sh (.int kind)),some (.ow (T1.map aK)),some (.sh (.int t)),a6,a7,a8,some (.sh (.int v9))]=some (decide (r8=0)):=by
   rw [cg,bm (a:=.sh (.int r8)) (b:=.sh (.int 0)) d8 rfl rfl]
   simp
  rw [dX,ht]
  by_cases h0:r8=0
  ·
   exact ⟨15,by simp [h0],by omega,by omega⟩
  ·
   exact ⟨v9,by simp [h0],y9.1,y9.2⟩
 obtain ⟨cnt,d9,c0,c15⟩:=ge c (fa:=ab 0) (fm:=ab 9) (δ:=[some (.sh (.int cell)),some (.sh (.int least)),some (.sh (.int n)),some (.sh (.int kind)),some (.ow (T1.map aK)),some (.sh (.int t)),a6,a7,a8,some (.sh (.int most))]) (cell:=cell) (many:=most) 4 (by omega) rfl rfl (by omega)
 have hr2:=rngE d9 (by omega) (by omega)
 obtain ⟨T2,y6,y7,y8,i1,g2,i3⟩:=lv (n:=n) (e0:=some (.sh (.int cell))) (e1:=some (.sh (.int least))) (e2:=some (.sh (.int n))) (e3:=some (.sh (.int kind))) (e5:=some (.sh (.int t))) (e9:=some (.sh (.int most)))
  (B:=ar (sset 7 (ao 3 (aC c) (aa (ad cb (ad aZ (ab 0) (ad cb (ac (.int 977)) (ab 6))) (ad aZ (ab 6) (ac (.int 3)))) (aa (ac (.int 5)) (aa (ab 2) ah))))) (ar (sset 8 (ao 3 (aC c) (aa (ad cb (ad aZ (ab 0) (ad cb (ac (.int 31)) (ab 6))) (ad aZ (ab 6) (ac (.int 5)))) (aa (ac (.int 6)) (aa (ab 2) ah))))) (sif (aj (ad oNe (ab 7) (ab 8))) (dg 4 (b6 (aa (aY dh (aa (ab 7) (aa (ab 8) ah))) (aa (aY eG (aa (ab 7) (aa (ab 8) ah))) ah)))) aD)))
  (fun d=>∃ k:Int,d=.int k∧0≤k∧k≤100) (by
   rintro d T x7 x8 ⟨k,rfl,kk0,kk1⟩ hT hTl
   have m1:cb (.int 977) (.int k)=some (.sh (.int (977*k))):=mulL (by omega) (by omega)
   have m2:cb (.int 31) (.int k)=some (.sh (.int (31*k))):=mulL (by omega) (by omega)
   have m3:∀ i:Int,cb (.int i) (.int (k+3))=some (.sh (.int (i*(k+3)))):=fun i=>mulR (by omega) (by omega)
   have m4:∀ i:Int,cb (.int i) (.int (k+5))=some (.sh (.int (i*(k+5)))):=fun i=>mulR (by omega) (by omega)
   obtain ⟨u,du,u0,u1⟩:=ge c (fa:=ad cb (ad aZ (ab 0) (ad cb (ac (.int 977)) (ab 6))) (ad aZ (ab 6) (ac (.int 3)))) (fm:=ab 2) (δ:=[some (.sh (.int cell)),some (.sh (.int least)),some (.sh (.int n)),some (.sh (.int kind)),some (.ow (T.map aK)),some (.sh (.int t)),some (.sh (.int k)),x7,x8,some (.sh (.int most))]) (cell:=(cell+977*k)*(k+3)) (many:=n) 5 (by omega) (by simp [m1,m3]) rfl (by omega)
   obtain ⟨v,dv,v0,v1⟩:=ge c (fa:=ad cb (ad aZ (ab 0) (ad cb (ac (.int 31)) (ab 6))) (ad aZ (ab 6) (ac (.int 5)))) (fm:=ab 2) (δ:=[some (.sh (.int cell)),some (.sh (.int least)),some (.sh (.int n)),some (.sh (.int kind)),some (.ow (T.map aK)),some (.sh (.int t)),some (.sh (.int k)),some (.sh (.int u)),x8,some (.sh (.int most))]) (cell:=(cell+31*k)*(k+5)) (many:=n) 6 (by omega) (by simp [m2,m4]) rfl (by omega)
   by_cases huv:u=v
   ·
    refine ⟨T,some (.sh (.int u)),some (.sh (.int v)),seq1 (dF du rfl rfl) (seq1 (dF dv rfl rfl) ?_),hT,by omega⟩
    show sif _ _ _ [some (.sh (.int cell)),some (.sh (.int least)),some (.sh (.int n)),some (.sh (.int kind)),some (.ow (T.map aK)),some (.sh (.int t)),some (.sh (.int k)),some (.sh (.int u)),some (.sh (.int v)),some (.sh (.int most))]=_
    simp [huv]
   ·
    refine ⟨T++[eR u v],some (.sh (.int u)),some (.sh (.int v)),seq1 (dF du rfl rfl) (seq1 (dF dv rfl rfl) ?_),mE hT (oZ u0 u1 v0 v1 huv),by simp⟩
    show sif _ _ _ [some (.sh (.int cell)),some (.sh (.int least)),some (.sh (.int n)),some (.sh (.int kind)),some (.ow (T.map aK)),some (.sh (.int t)),some (.sh (.int k)),some (.sh (.int u)),some (.sh (.int v)),some (.sh (.int most))]=_
    rw [dX]
    have ht:(aj (ad oNe (ab 7) (ab 8))) [some (.sh (.int cell)),some (.sh (.int least)),some (.sh (.int n)),some (.sh (.int kind)),some (.ow (T.map aK)),some (.sh (.int t)),some (.sh (.int k)),some (.sh (.int u)),some (.sh (.int v)),some (.sh (.int most))]=some true:=by simp [huv]
    rw [ht]
    exact app_tie (n:=n) hTl)
  ((List.range cnt.toNat).map fun k=>D.int (0+((k:Nat):Int))) T1 a6 a7 a8 (by
   intro d hd
   obtain ⟨k,hk,rfl⟩:=List.mem_map.1 hd
   rw [List.mem_range] at hk
   exact ⟨_,rfl,by omega,by omega⟩) g1 (by simp;omega)
 obtain ⟨r7,d7,_,_⟩:=ge c (fa:=ab 0) (fm:=ac (.int 2)) (δ:=[some (.sh (.int cell)),some (.sh (.int least)),some (.sh (.int n)),some (.sh (.int kind)),some (.ow (T2.map aK)),some (.sh (.int t)),y6,y7,y8,some (.sh (.int most))]) (cell:=cell) (many:=2) 7 (by omega) rfl rfl (by omega)
 obtain ⟨T3,s10,g3⟩ : ∃ T3:List Tie,sif (aj (ad oEq (ao 3 (aC c) (aa (ab 0) (aa (ac (.int 7)) (aa (ac (.int 2)) ah)))) (ac (.int 0)))) (sset 4 (drev (ab 4) (dun e8 (ac (.int 1))))) aD [some (.sh (.int cell)),some (.sh (.int least)),some (.sh (.int n)),some (.sh (.int kind)),some (.ow (T2.map aK)),some (.sh (.int t)),y6,y7,y8,some (.sh (.int most))] =
   some (.nx [some (.sh (.int cell)),some (.sh (.int least)),some (.sh (.int n)),some (.sh (.int kind)),some (.ow (T3.map aK)),some (.sh (.int t)),y6,y7,y8,some (.sh (.int most))])∧Good n T3:=by
  have ht:(aj (ad oEq (ao 3 (aC c) (aa (ab 0) (aa (ac (.int 7)) (aa (ac (.int 2)) ah)))) (ac (.int 0)))) [some (.sh (.int cell)),some (.sh (.int least)),some (.sh (.int n)),some (.sh (.int kind)),some (.ow (T2.map aK)),some (.sh (.int t)),y6,y7,y8,some (.sh (.int most))]=some (decide (r7=0)):=by
   rw [cg,bm (a:=.sh (.int r7)) (b:=.sh (.int 0)) d7 rfl rfl]
   simp
  rw [dX,ht]
  by_cases h0:r7=0
  ·
   refine ⟨T2.reverse,?_,fun u hu=>g2 u (by simpa using hu)⟩
   simp [h0,drev,nB]
  ·
   exact ⟨T2,by simp [h0],g2⟩
 refine ⟨n,T3.take 14,?_,⟨n1,n8,by simp;omega,fun u hu=>g3 u (List.mem_of_mem_take hu)⟩,by omega⟩
 refine bA (r:=.sh (ay n (T3.take 14))) rfl (seq1 s1 (seq1 s2 (seq1 s3 (seq1 s4 (seq1 s5 (seq1 s6 (seq1 s7 (seq1 s8 (seq1 (δ1:=[some (.sh (.int cell)),some (.sh (.int least)),some (.sh (.int n)),some (.sh (.int kind)),some (.ow (T2.map aK)),some (.sh (.int t)),y6,y7,y8,some (.sh (.int most))]) ?_ (seq1 s10 ?_)))))))))) rfl
 ·
  rw [ff]
  show bV _ _ _ [some (.sh (.int cell)),some (.sh (.int least)),some (.sh (.int n)),some (.sh (.int kind)),some (.ow (T1.map aK)),some (.sh (.int t)),a6,a7,a8,some (.sh (.int most))]=_
  unfold bV
  rw [hr2]
  exact i1
 ·
  simp [dP,fZ,gt,cut14,b2,ay]
end Pg
end
section
set_option linter.all false
set_option Elab.async false
set_option maxRecDepth 100000
namespace Pg
open PySem PySem.Spec L2 Ew Mx
variable (c:CA)
theorem scr_0 (K:PySem.W.Frag) (ns:List Int) (r:DSt):f7 K 0 (some (.scr K ns)::r)=some ns:=by
 unfold f7
 simp
theorem iv (K:PySem.W.Frag) (ns:List Int) {k:Int} (hk:0≤k):∃ v,a0 c K ns k=some v:=by
 unfold a0 runS
 show ∃ v,(match ca c K [some (.scr K ns),some (.sh (.int k))] with | some (.rt (.sh (.int j)))=>some j | _=>none)=some v
 by_cases h:k<(ns.length:Int)
 ·
  have hk2:k.toNat<ns.length:=by omega
  refine ⟨ns[k.toNat],?_⟩
  have:ca c K [some (.scr K ns),some (.sh (.int k))]=some (.rt (.sh (.int (ns[k.toNat])))):=by
   simp [ca,dlenS,dixS,scr_0,h,jf hk,List.getElem?_eq_getElem hk2]
  rw [this]
 ·
  refine ⟨0,?_⟩
  have:ca c K [some (.scr K ns),some (.sh (.int k))]=some (.rt (.sh (.int 0))):=by
   simp [ca,dlenS,scr_0,h]
  rw [this]
theorem iw {K:PySem.W.Frag} {ns:List Int} {r:DSt} {f:FE} {k v:Int} (h:f (some (.scr K ns)::r)=some (.sh (.int k))) (hv:a0 c K ns k=some v):eJ K 0 (a0 c K) f (some (.scr K ns)::r)=some (.sh (.int v)):=by
 unfold eJ
 rw [h]
 simp [scr_0,hv]
theorem lw (T:List Tie) (ps:List Int) (hT:T.length≤1000):bN c [.lst (T.map aK),am ps]=some (.int ((T.filter (cc ps)).length:Int)):=by
 have c1:=bY (fi:=aO (ab 0)) (g:=jl 2 (cf (au 0) (cf (au 1) j4))) (t:=aj (ad oNe (ad oIn (ab 0) (ab 2)) (ad oIn (ab 1) (ab 2)))) (fe:=ac (.int 1)) (m:=2) (ix:=[1]) (δ:=[some (.sh (.lst (T.map aK))),some (.sh (am ps))]) (items:=T.map aK) rfl (by simpa using hT) (bW _ _ _ _ aK (cc ps) (fun _=>D.int 1) T (fun t _=>by
  refine ⟨_,rfl,?_,fun _=>⟨.sh (.int 1),rfl,rfl,rfl⟩⟩
  simp [dIn,am,oNe_bb,cc]))
 refine bA (r:=.sh (.int _)) rfl (iq ?_ rfl) rfl
 rw [iQ,aP]
 erw [c1]
 simp
theorem jX {n:Int} {e0:Option E}:∀ (ps:List Int) (last:Int) (x:Option E),(∀ p∈ps,last<p∧p<n)→ps.Pairwise (·<·)→
  ∃ y z,bu (au 3) (ar (sif ((bo (aj (av is_bool (ab 3))) (bo (aU (aj (av dA (ab 3)))) (aU (aj (cS oLt oLt (ab 2) (ab 3) (ab 1))))))) (aL (ac (.bl false))) aD) (sset 2 (ab 3))) (ps.map .int) [e0,some (.sh (.int n)),some (.sh (.int last)),x]=some (.nx [e0,some (.sh (.int n)),y,z])
 | [],last,x,_,_=>⟨_,_,rfl⟩
 | p::ps,last,x,h,hp=>by
  rw [List.pairwise_cons] at hp
  obtain ⟨y,z,ih⟩:=jX (n:=n) (e0:=e0) ps p (some (.sh (.int p))) (fun q hq=>⟨hp.1 q hq,(h q (by simp [hq])).2⟩) hp.2
  refine ⟨y,z,?_⟩
  rw [List.map_cons]
  unfold bu
  have hg:au 3 (.int p) [e0,some (.sh (.int n)),some (.sh (.int last)),x]=some [e0,some (.sh (.int n)),some (.sh (.int last)),some (.sh (.int p))]:=rfl
  rw [hg]
  have h1:=h p (by simp)
  have hb:(ar (sif ((bo (aj (av is_bool (ab 3))) (bo (aU (aj (av dA (ab 3)))) (aU (aj (cS oLt oLt (ab 2) (ab 3) (ab 1))))))) (aL (ac (.bl false))) aD) (sset 2 (ab 3))) [e0,some (.sh (.int n)),some (.sh (.int last)),some (.sh (.int p))]=some (.nx [e0,some (.sh (.int n)),some (.sh (.int p)),some (.sh (.int p))]):=by
   simp [av,is_bool,dA,h1]
  simp only [Option.bind_some]
  rw [hb]
  simp only [Option.bind_some,cG]
  exact ih
theorem o4 {n:Int} {ps:List Int} (h:∀ p∈ps,0≤p∧p<n) (hp:ps.Pairwise (·<·)):eB c [am ps,.int n]=some (.bl true):=by
 obtain ⟨y,z,hl⟩:=jX (n:=n) (e0:=some (.sh (am ps))) ps (-1) none (fun p hp=>⟨by have:=h p hp;omega,(h p hp).2⟩) hp
 refine bA (r:=.sh (.bl true)) rfl (seq1 (δ1:=[some (.sh (am ps)),some (.sh (.int n)),none,none]) (by simp [av,cn,am]) (seq1 (δ1:=[some (.sh (am ps)),some (.sh (.int n)),some (.sh (.int (-1))),none]) (by simp [nB]) (seq1 (δ1:=[some (.sh (am ps)),some (.sh (.int n)),y,z]) ?_ rfl))) rfl
 simp only [bV,eu,cK,List.getElem?_cons_zero,List.getElem?_cons_succ,Option.bind_some,ej,bn,am]
 simp only [Bool.false_eq_true,if_false,Option.bind_some]
 exact hl
theorem mG {e0 e1 e2 e3 e5:Option E}:∀ (ns:List Int) (x:Option E),(∀ p∈ns,0≤p)→
  ∃ y,bu (au 4) (sif ((bo (aj (av is_bool (ab 4))) (bo (aU (aj (av dA (ab 4)))) (aj (ad oLt (ab 4) (ac (.int 0))))))) (aL (ac (.bl false))) aD) (ns.map .int) [e0,e1,e2,e3,x,e5]=some (.nx [e0,e1,e2,e3,y,e5])
 | [],x,_=>⟨x,rfl⟩
 | p::ns,x,h=>by
  obtain ⟨y,ih⟩:=mG (e0:=e0) (e1:=e1) (e2:=e2) (e3:=e3) (e5:=e5) ns (some (.sh (.int p))) (fun q hq=>h q (by simp [hq]))
  refine ⟨y,?_⟩
  rw [List.map_cons]
  unfold bu
  have hg:au 4 (.int p) [e0,e1,e2,e3,x,e5]=some [e0,e1,e2,e3,some (.sh (.int p)),e5]:=rfl
  rw [hg]
  have h1:¬p<0:=by have:=h p (by simp);omega
  have hb:(sif ((bo (aj (av is_bool (ab 4))) (bo (aU (aj (av dA (ab 4)))) (aj (ad oLt (ab 4) (ac (.int 0))))))) (aL (ac (.bl false))) aD) [e0,e1,e2,e3,some (.sh (.int p)),e5]=some (.nx [e0,e1,e2,e3,some (.sh (.int p)),e5]):=by
   simp [av,is_bool,dA,h1]
  simp only [Option.bind_some]
  rw [hb]
  simp only [Option.bind_some,cG]
  exact ih
theorem best_lt {ns:List Int} {n:Int} (h0:ns≠[]) (h:∀ p∈ns,p<n):∃ m,best (fun x m=>decide (m<x)) ns=some m∧m<n:=by
 cases ns with
 | nil=>exact absurd rfl h0
 | cons a r=>
  have go:∀ (r:List Int) (a:Int),a<n→(∀ x∈r,x<n)→r.foldl (fun m x=>if decide (m<x) then x else m) a<n:=by
   intro r
   induction r with
   | nil=>intro a ha _;exact ha
   | cons x r ih=>
    intro a ha hr
    rw [List.foldl_cons]
    refine ih _ ?_ (fun y hy=>hr y (by simp [hy]))
    have:=hr x (by simp)
    split <;> omega
  exact ⟨_,rfl,go r a (h a (by simp)) (fun x hx=>h x (by simp [hx]))⟩
theorem jF {n:Int} {T:List Tie} (W:b7 n T) {w:Wlk Int Int} (h:gJ n T w) (nd:w.2.Nodup):fq c [ay n T,eWk w]=some (.bl true):=by
 have hl:=h.len
 have hsm:=h.sm
 have hne:w.1≠[]:=by intro e;rw [e] at hl;simp at hl
 have hn:∀ pl∈w.2,0≤pl∧pl<(T.length:Int):=by
  intro pl hpl
  obtain ⟨k,hk,rfl⟩:=List.mem_iff_getElem.1 hpl
  have:=h.tie W hk
  exact ⟨this.1,this.2.1⟩
 obtain ⟨mx,hmx,hmn⟩:=best_lt hne (fun p hp=>(h.pt p hp).2)
 have hdd:(iL w.2).length=w.2.length:=(lm w.2).2 nd
 generalize hδ:[some (E.sh (ay n T)),some (.sh (eWk w)),some (.sh (am w.1)),some (.sh (am w.2)),none,none]=δ
 have s1:sif ((bo (aU (aj (av eH (ab 1)))) (bo (aj (ad oNe (aA bJ (aa (ab 1) ah)) (ac (.int 2)))) (bo (aU (aj (av cn (ad oIx (ab 1) (ac (.int 0)))))) (aU (aj (av cn (ad oIx (ab 1) (ac (.int 1)))))))))) (aL (ac (.bl false))) aD [some (.sh (ay n T)),some (.sh (eWk w)),none,none,none,none]=some (.nx [some (.sh (ay n T)),some (.sh (eWk w)),none,none,none,none]):=by
  simp [av,eH,cn,eWk,aG,bJ,di,cZ]
 have s2:sasg (ab 1) (jl 2 (cf (au 2) (cf (au 3) j4))) [some (.sh (ay n T)),some (.sh (eWk w)),none,none,none,none]=some (.nx δ):=by rw [←hδ];rfl
 have s3:sif ((bo (aj (ad oNe (aA bJ (aa (ab 2) ah)) (ad aZ (aA bJ (aa (ab 3) ah)) (ac (.int 1))))) (aj (ad oNe (cV (ab 3)) (aA bJ (aa (ab 3) ah)))))) (aL (ac (.bl false))) aD δ=some (.nx δ):=by
  rw [←hδ]
  have hs:w.2.length≤1000:=by omega
  simp [am,hl,cV,eD,hdd,hs]
 obtain ⟨y4,s4⟩ : ∃ y4,bV (aO (ad aZ (ab 2) (ab 3))) (au 4) (sif ((bo (aj (av is_bool (ab 4))) (bo (aU (aj (av dA (ab 4)))) (aj (ad oLt (ab 4) (ac (.int 0))))))) (aL (ac (.bl false))) aD) δ=some (.nx [some (.sh (ay n T)),some (.sh (eWk w)),some (.sh (am w.1)),some (.sh (am w.2)),y4,none]):=by
  obtain ⟨y,hy⟩:=mG (e0:=some (.sh (ay n T))) (e1:=some (.sh (eWk w))) (e2:=some (.sh (am w.1))) (e3:=some (.sh (am w.2))) (e5:=none) (w.1++w.2) none (by
   intro p hp
   rw [List.mem_append] at hp
   rcases hp with hp | hp
   ·
    exact (h.pt p hp).1
   ·
    exact (hn p hp).1)
  refine ⟨y,?_⟩
  have ha:=gZ (w.1.map D.int) (w.2.map D.int) (by simp;omega)
  have hi:aO (ad aZ (ab 2) (ab 3)) δ=some ((w.1++w.2).map .int):=by
   rw [eu,bm (a:=.sh (am w.1)) (b:=.sh (am w.2)) (by rw [←hδ];rfl) (by rw [←hδ];rfl) ha]
   simp
  unfold bV
  rw [hi,←hδ]
  exact hy
 generalize hδ2:[some (E.sh (ay n T)),some (.sh (eWk w)),some (.sh (am w.1)),some (.sh (am w.2)),y4,none]=δ2 at s4
 have c1:=bY (fi:=aO (ab 3)) (g:=au 0) (t:=cJ) (fe:=ad oLt (ab 0) (aA bJ (aa (ad oIx (ab 1) (ac (.int 1))) ah))) (m:=1) (ix:=[0]) (δ:=δ2) (items:=w.2.map .int) (by rw [←hδ2];rfl) (by simp;omega) (bW _ _ _ _ D.int (fun _=>true) (fun _=>D.bl true) w.2 (fun p hp=>by
  refine ⟨_,rfl,rfl,fun _=>⟨.sh (.bl true),?_,rfl,rfl⟩⟩
  have h1:=hn p hp
  rw [←hδ2]
  simp [dIn,ay,cZ,h1]))
 rw [List.filter_eq_self.2 (fun _ _=>rfl)] at c1
 have a1:=all_true (f:=aa (bD (aO (ab 3)) (au 0) cJ (ad oLt (ab 0) (aA bJ (aa (ad oIx (ab 1) (ac (.int 1))) ah))) 1 [0]) ah) (δ:=δ2) (xs:=w.2) (by rw [aP,c1];rfl)
 have s5:sif ((bo (aj (ad oGe (aA jJ (aa (ab 2) ah)) (ad oIx (ab 0) (ac (.int 0))))) (aU (aj (aA jo (aa (bD (aO (ab 3)) (au 0) cJ (ad oLt (ab 0) (aA bJ (aa (ad oIx (ab 1) (ac (.int 1))) ah))) 1 [0]) ah)))))) (aL (ac (.bl false))) aD δ2=some (.nx δ2):=by
  have t1:(aj (ad oGe (aA jJ (aa (ab 2) ah)) (ad oIx (ab 0) (ac (.int 0))))) δ2=some false:=by
   rw [←hδ2]
   have:¬n≤mx:=by omega
   simp [am,jJ,eD,hmx,ay,di,this]
  rw [dX,mX,t1]
  simp only [Option.bind_some,gR,cg]
  rw [a1]
  rfl
 have loop:∀ (ks:List Nat) (x:Option E),(∀ k∈ks,k<w.2.length)→∃ y,bu (au 5) (sif (aj (ad oNe (ad oIx (ad oIx (ab 0) (ac (.int 1))) (ad oIx (ab 3) (ab 5))) (b6 (aa (aY dh (aa (ad oIx (ab 2) (ab 5)) (aa (ad oIx (ab 2) (ad aZ (ab 5) (ac (.int 1)))) ah))) (aa (aY eG (aa (ad oIx (ab 2) (ab 5)) (aa (ad oIx (ab 2) (ad aZ (ab 5) (ac (.int 1)))) ah))) ah))))) (aL (ac (.bl false))) aD)
   (ks.map fun k=>D.int (0+((k:Nat):Int))) [some (.sh (ay n T)),some (.sh (eWk w)),some (.sh (am w.1)),some (.sh (am w.2)),y4,x]=some (.nx [some (.sh (ay n T)),some (.sh (eWk w)),some (.sh (am w.1)),some (.sh (am w.2)),y4,y]):=by
  intro ks
  induction ks with
  | nil=>intro x _;exact ⟨x,rfl⟩
  | cons k ks ih=>
   intro x hks
   obtain ⟨y,hy⟩:=ih (some (.sh (.int (0+(k:Int))))) (fun j hj=>hks j (by simp [hj]))
   refine ⟨y,?_⟩
   rw [List.map_cons]
   unfold bu
   have hg:au 5 (.int (0+(k:Int))) [some (.sh (ay n T)),some (.sh (eWk w)),some (.sh (am w.1)),some (.sh (am w.2)),y4,x]=some [some (.sh (ay n T)),some (.sh (eWk w)),some (.sh (am w.1)),some (.sh (am w.2)),y4,some (.sh (.int (0+(k:Int))))]:=rfl
   rw [hg]
   have hk:=hks k (by simp)
   have ht:=h.tie W hk
   have g1:atI (T.map aK) w.2[k]=some (aK (eR (w.1[k]'(by omega)) (w.1[k+1]'(by omega)))):=by
    rw [jf ht.1,List.getElem?_map,ht.2.2];rfl
   have g0:atI (w.2.map D.int) (k:Int)=some (.int w.2[k]):=by rw [io,List.getElem?_map,List.getElem?_eq_getElem (by omega)];rfl
   have g2:atI (w.1.map D.int) (k:Int)=some (.int (w.1[k]'(by omega))):=by rw [io,List.getElem?_map,List.getElem?_eq_getElem (by omega)];rfl
   have g3:atI (w.1.map D.int) ((k:Int)+1)=some (.int (w.1[k+1]'(by omega))):=by
    rw [show (k:Int)+1=((k+1:Nat):Int) by omega,io,List.getElem?_map,List.getElem?_eq_getElem (by omega)];rfl
   have b2:(2:Nat)≤big:=by decide
   have hne:=oNe_tie (eR (w.1[k]'(by omega)) (w.1[k+1]'(by omega))) (eR (w.1[k]'(by omega)) (w.1[k+1]'(by omega)))
   have hb:(sif (aj (ad oNe (ad oIx (ad oIx (ab 0) (ac (.int 1))) (ad oIx (ab 3) (ab 5))) (b6 (aa (aY dh (aa (ad oIx (ab 2) (ab 5)) (aa (ad oIx (ab 2) (ad aZ (ab 5) (ac (.int 1)))) ah))) (aa (aY eG (aa (ad oIx (ab 2) (ab 5)) (aa (ad oIx (ab 2) (ad aZ (ab 5) (ac (.int 1)))) ah))) ah))))) (aL (ac (.bl false))) aD) [some (.sh (ay n T)),some (.sh (eWk w)),some (.sh (am w.1)),some (.sh (am w.2)),y4,some (.sh (.int (0+(k:Int))))] =
     some (.nx [some (.sh (ay n T)),some (.sh (eWk w)),some (.sh (am w.1)),some (.sh (am w.2)),y4,some (.sh (.int (0+(k:Int))))]):=by
    have e0:(0:Int)+(k:Int)=(k:Int):=by omega
    rw [e0]
    have hA:ad oIx (ad oIx (ab 0) (ac (.int 1))) (ad oIx (ab 3) (ab 5)) [some (.sh (ay n T)),some (.sh (eWk w)),some (.sh (am w.1)),some (.sh (am w.2)),y4,some (.sh (.int (k:Int)))]=some (.sh (aK (eR (w.1[k]'(by omega)) (w.1[k+1]'(by omega))))):=by
     simp only [jq,cK,kO,List.getElem?_cons_zero,List.getElem?_cons_succ,Option.bind_some,bn,ay,oIx_t,jK,cZ,Option.map_some,am,g0,g1]
    have hP:ad oIx (ab 2) (ab 5) [some (.sh (ay n T)),some (.sh (eWk w)),some (.sh (am w.1)),some (.sh (am w.2)),y4,some (.sh (.int (k:Int)))]=some (.sh (.int (w.1[k]'(by omega)))):=by
     simp only [jq,cK,List.getElem?_cons_zero,List.getElem?_cons_succ,Option.bind_some,bn,jK,Option.map_some,am,g2]
    have hQ:ad oIx (ab 2) (ad aZ (ab 5) (ac (.int 1))) [some (.sh (ay n T)),some (.sh (eWk w)),some (.sh (am w.1)),some (.sh (am w.2)),y4,some (.sh (.int (k:Int)))]=some (.sh (.int (w.1[k+1]'(by omega)))):=by
     simp only [jq,cK,kO,List.getElem?_cons_zero,List.getElem?_cons_succ,Option.bind_some,bn,oAdd_ii,jK,Option.map_some,am,g3]
    have hB:b6 (aa (aY dh (aa (ad oIx (ab 2) (ab 5)) (aa (ad oIx (ab 2) (ad aZ (ab 5) (ac (.int 1)))) ah))) (aa (aY eG (aa (ad oIx (ab 2) (ab 5)) (aa (ad oIx (ab 2) (ad aZ (ab 5) (ac (.int 1)))) ah))) ah)) [some (.sh (ay n T)),some (.sh (eWk w)),some (.sh (am w.1)),some (.sh (am w.2)),y4,some (.sh (.int (k:Int)))]=some (.sh (aK (eR (w.1[k]'(by omega)) (w.1[k+1]'(by omega))))):=by
     rw [dtup_e,aP,aP,kQ,kQ,aP,aP,hP,hQ]
     simp [b2,eR,←je,←kE]
    rw [dX,cg,bm hA hB hne]
    simp
   simp only [Option.bind_some]
   rw [hb]
   simp only [Option.bind_some,cG]
   exact hy
 obtain ⟨y5,s6⟩:=loop (List.range w.2.length) none (fun k hk=>by simpa using hk)
 refine bA (r:=.sh (.bl true)) rfl (seq1 s1 (seq1 s2 (seq1 s3 (seq1 s4 (seq1 s5 (seq1 (δ1:=[some (.sh (ay n T)),some (.sh (eWk w)),some (.sh (am w.1)),some (.sh (am w.2)),y4,y5]) ?_ rfl)))))) rfl
 have hr:=rngE (f:=aA bJ (aa (ab 3) ah)) (δ:=δ2) (j:=w.2.length) (by rw [←hδ2];simp [am]) (by omega) (by omega)
 unfold bV
 rw [hr,←hδ2]
 simpa using s6
end Pg
end
section
set_option linter.all false
set_option Elab.async false
set_option maxRecDepth 100000
namespace Pg
open PySem PySem.Spec L2 Ew Mx
variable (c:CA)
theorem mH {f:FE} {δ:DSt} {r:R} {ns:List Int} (h:f δ=some r) (hv:r.view=am ns) (hl:ns.length≤1000) (nd:ns.Nodup):cV f δ=some (.sh (.int ns.length)):=by
 unfold cV
 rw [h]
 simp only [Option.bind_some,hv,am]
 rw [eD]
 simp [hl,(lm ns).2 nd]
theorem kh {n:Int} {T:List Tie} (W:b7 n T) {w:Wlk Int Int} (h:gJ n T w) (nd:w.2.Nodup) (nd1:w.1.Nodup):cx c [ay n T,eWk w]=some (.bl true):=by
 have h1:=jF c W h nd
 have hl:w.1.length≤1000:=by have:=h.len;have:=h.sm;omega
 refine bA (r:=.sh (.bl true)) rfl (iq (lp (dl (r1:=.sh (ay n T)) (r2:=.sh (eWk w)) rfl rfl h1 (.inl ⟨rfl,rfl⟩)) ?_) rfl) rfl
 refine bm (a:=.sh (.int w.1.length)) (b:=.sh (.int w.1.length)) (mH (r:=.sh (am w.1)) (ln rfl) rfl hl nd1) ?_ (by simp)
 rw [iQ,aP,ln (f:=ab 1) (w:=w) rfl]
 simp [am]
theorem gL {n:Int} {T:List Tie} (W:b7 n T) {one other:Int} {e3 e4:Option E}:∀ (ws:List (Wlk Int Int)) (acc:List Int) (x:Option E),lq n T one other ws→(∀ w∈ws,w.2.Nodup)→acc.length+(ws.flatMap (·.2)).length≤900→
  ∃ y,bu (au 6) (ar (sif ((bo (aU (aj (ao 2 (cx c) (aa (ab 0) (aa (ab 6) ah))))) (bo (aj (ad oNe (ad oIx (ad oIx (ab 6) (ac (.int 0))) (ac (.int 0))) (ab 1))) (aj (ad oNe (ad oIx (ad oIx (ab 6) (ac (.int 0))) (dun e8 (ac (.int 1)))) (ab 2)))))) (aL (ac (.bl false))) aD) (sset 5 (ad aZ (ab 5) (ad oIx (ab 6) (ac (.int 1)))))) (ws.map eWk)
   [some (.sh (ay n T)),some (.sh (.int one)),some (.sh (.int other)),e3,e4,some (.ow (acc.map .int)),x]=some (.nx [some (.sh (ay n T)),some (.sh (.int one)),some (.sh (.int other)),e3,e4,some (.ow ((acc++ws.flatMap (·.2)).map .int)),y])
 | [],acc,x,_,_,_=>⟨x,by simp [bu]⟩
 | w::ws,acc,x,h,hn,hl=>by
  simp only [List.flatMap_cons,List.length_append] at hl
  obtain ⟨y,ih⟩:=gL W (e3:=e3) (e4:=e4) ws (acc++w.2) (some (.sh (eWk w))) ⟨fun w' h'=>h.ok w' (by simp [h']),fun w' h'=>h.nd w' (by simp [h']),fun w' h'=>h.hd w' (by simp [h']),fun w' h'=>h.lt w' (by simp [h']),by have:=h.sm;simp at this;omega⟩ (fun w' h'=>hn w' (by simp [h'])) (by simp only [List.length_append];omega)
  refine ⟨y,?_⟩
  rw [List.map_cons]
  unfold bu
  have hg:au 6 (eWk w) [some (.sh (ay n T)),some (.sh (.int one)),some (.sh (.int other)),e3,e4,some (.ow (acc.map .int)),x]=some [some (.sh (ay n T)),some (.sh (.int one)),some (.sh (.int other)),e3,e4,some (.ow (acc.map .int)),some (.sh (eWk w))]:=rfl
  rw [hg]
  have hw:=kh c W (h.ok w (by simp)) (hn w (by simp)) (h.nd w (by simp))
  have t1:ao 2 (cx c) (aa (ab 0) (aa (ab 6) ah)) [some (.sh (ay n T)),some (.sh (.int one)),some (.sh (.int other)),e3,e4,some (.ow (acc.map .int)),some (.sh (eWk w))]=some (.sh (.bl true)):=dl (r1:=.sh (ay n T)) (r2:=.sh (eWk w)) rfl rfl hw (.inl ⟨rfl,rfl⟩)
  have t2:ad oNe (ad oIx (ad oIx (ab 6) (ac (.int 0))) (ac (.int 0))) (ab 1) [some (.sh (ay n T)),some (.sh (.int one)),some (.sh (.int other)),e3,e4,some (.ow (acc.map .int)),some (.sh (eWk w))]=some (.sh (.bl false)):=by
   refine bm (a:=.sh (.int one)) (b:=.sh (.int one)) (bm (a:=.sh (am w.1)) (b:=.sh (.int 0)) (ln rfl) rfl ?_) rfl (by simp)
   have:=h.hd w (by simp)
   rw [List.head?_eq_getElem?] at this
   simp [am,di,this]
  have t3:ad oNe (ad oIx (ad oIx (ab 6) (ac (.int 0))) (dun e8 (ac (.int 1)))) (ab 2) [some (.sh (ay n T)),some (.sh (.int one)),some (.sh (.int other)),e3,e4,some (.ow (acc.map .int)),some (.sh (eWk w))]=some (.sh (.bl false)):=by
   refine bm (a:=.sh (.int other)) (b:=.sh (.int other)) (bm (a:=.sh (am w.1)) (b:=.sh (.int (-1))) (ln rfl) rfl ?_) rfl (by simp)
   have:=h.lt w (by simp)
   simp [am,kC,this]
  have hb:(ar (sif ((bo (aU (aj (ao 2 (cx c) (aa (ab 0) (aa (ab 6) ah))))) (bo (aj (ad oNe (ad oIx (ad oIx (ab 6) (ac (.int 0))) (ac (.int 0))) (ab 1))) (aj (ad oNe (ad oIx (ad oIx (ab 6) (ac (.int 0))) (dun e8 (ac (.int 1)))) (ab 2)))))) (aL (ac (.bl false))) aD) (sset 5 (ad aZ (ab 5) (ad oIx (ab 6) (ac (.int 1)))))) [some (.sh (ay n T)),some (.sh (.int one)),some (.sh (.int other)),e3,e4,some (.ow (acc.map .int)),some (.sh (eWk w))] =
    some (.nx [some (.sh (ay n T)),some (.sh (.int one)),some (.sh (.int other)),e3,e4,some (.ow ((acc++w.2).map .int)),some (.sh (eWk w))]):=by
   refine seq1 (δ1:=[some (.sh (ay n T)),some (.sh (.int one)),some (.sh (.int other)),e3,e4,some (.ow (acc.map .int)),some (.sh (eWk w))]) ?_ ?_
   ·
    rw [dX,mX,gR,cg,t1,mX,cg,t2,cg,t3];rfl
   ·
    refine dF (r:=.fr ((acc++w.2).map .int)) (bm (a:=.bw (acc.map .int)) (b:=.sh (am w.2)) rfl (eWk_1 rfl) ?_) rfl rfl
    have:=gZ (acc.map D.int) (w.2.map D.int) (by simp only [List.length_map];omega)
    simp only [mY,bn,am]
    rw [this,List.map_append]
  simp only [Option.bind_some]
  rw [hb]
  simp only [Option.bind_some,cG]
  rw [ih]
  simp
theorem lA {n:Int} {T:List Tie} (W:b7 n T) {one other:Int} {ws:List (Wlk Int Int)} (h:lq n T one other ws) (hn:∀ w∈ws,w.2.Nodup) (nd:(ws.flatMap (·.2)).Nodup) (hl:(ws.flatMap (·.2)).length≤900) :
  eY c [ay n T,.int one,.int other,.int ws.length,.lst (ws.map eWk)]=some (.bl true):=by
 obtain ⟨y,hlp⟩:=gL c W (e3:=some (.sh (.int ws.length))) (e4:=some (.sh (.lst (ws.map eWk)))) ws [] none h hn (by simpa using hl)
 refine bA (r:=.sh (.bl true)) rfl (seq1 (δ1:=[some (.sh (ay n T)),some (.sh (.int one)),some (.sh (.int other)),some (.sh (.int ws.length)),some (.sh (.lst (ws.map eWk))),none,none]) (by simp [av,cn]) (seq1 (δ1:=[some (.sh (ay n T)),some (.sh (.int one)),some (.sh (.int other)),some (.sh (.int ws.length)),some (.sh (.lst (ws.map eWk))),some (.ow []),none]) (by simp) (seq1 (δ1:=[some (.sh (ay n T)),some (.sh (.int one)),some (.sh (.int other)),some (.sh (.int ws.length)),some (.sh (.lst (ws.map eWk))),some (.ow ((([]++ws.flatMap fun w=>w.2:List Int)).map .int)),y]) ?_ ?_))) rfl
 ·
  simp only [bV,eu,cK,List.getElem?_cons_zero,List.getElem?_cons_succ,Option.bind_some,ej,bn]
  simp only [Bool.false_eq_true,if_false,Option.bind_some]
  exact hlp
 ·
  refine iq (bm (a:=.sh (.int ((ws.flatMap fun w=>w.2:List Int)).length)) (b:=.sh (.int ((ws.flatMap fun w=>w.2:List Int)).length)) (mH (r:=.bw ((([]++ws.flatMap fun w=>w.2:List Int)).map .int)) rfl rfl (by omega) nd) ?_ (by simp)) rfl
  simp
theorem fG (ns:List Int):(srt ns).Perm ns:=List.mergeSort_perm _ _
theorem srt_le (ns:List Int):(srt ns).Pairwise (·≤·):=by
 have:=List.pairwise_mergeSort (le:=fun (a b:Int)=>decide (a≤b)) (fun a b c h1 h2=>by simp at *;omega) (fun a b=>by simp;omega) ns
 exact this.imp (fun h=>by simpa using h)
theorem srt_lt {ns:List Int} (nd:ns.Nodup):(srt ns).Pairwise (·<·):=by
 have h1:=srt_le ns
 have h2:(srt ns).Nodup:=(List.Perm.nodup_iff (fG ns)).2 nd
 exact (List.Pairwise.and h1 h2).imp (fun ⟨a,b⟩=>by omega)
theorem pts_lt (n:Int):(pts n).Pairwise (·<·):=by
 unfold pts
 rw [List.pairwise_map]
 exact (List.pairwise_lt_range).imp (fun h=>by omega)
theorem isSet_srt {n:Int} {ns:List Int} (nd:ns.Nodup) (h:∀ p∈ns,0≤p∧p<n):isSet n (srt ns)=true:=by
 unfold isSet
 rw [decide_eq_true_eq]
 have hp:((pts n).filter (srt ns).contains).Perm ns:=by
  rw [List.perm_ext_iff_of_nodup (eA (pts_nodup n)) nd]
  intro a
  rw [List.mem_filter,mem_pts]
  simp only [List.contains_iff_mem,(fG ns).mem_iff]
  constructor
  ·
   exact fun h=>h.2
  ·
   exact fun ha=>⟨h a ha,ha⟩
 exact (srt_eq hp ((pts_lt n).filter _ |>.imp (fun h=>by omega))).symm
structure SideOk (n:Int) (T:List Tie) (one other:Int) (m:Nat) (ps:List Int):Prop where
 set:isSet n ps=true
 lt:ps.Pairwise (·<·)
 pt:∀ p∈ps,0≤p∧p<n
 one:one∈ps
 other:other∉ps
 few:(T.filter (cc ps)).length<m
theorem side_ok {n:Int} {T:List Tie} (W:b7 n T) {one other:Int} (h:bG n one other=true) {m:Nat} {ws:List (Wlk Int Int)} (A:gX (aq T) one other m ws) (hlt:ws.length<m) :
  SideOk n T one other m (srt (be T ws one))∧(be T ws one).length<64:=by
 have hl:=cR T
 have hT:=W.2.2.1
 have hnl:=jg W A
 have hfl:(ws.flatMap al).length≤28:=by rw [dd (fun w hw=>(A.ok w hw).len)];exact hnl
 have hfree:(az (aq T) (ws.flatMap al)).length≤56:=by
  unfold az
  have:=iZ (L:=aq T) (ns:=(ws.flatMap al).map bR)
  simp only [List.length_append,List.length_map]
  omega
 have R:=oA (L:=(az (aq T) (ws.flatMap al)).map fun s=>(s.1,s.2.1)) (a:=one) (n:=100) (by simp only [List.length_map];omega)
 have hR:be T ws one=reach 100 ((az (aq T) (ws.flatMap al)).map fun s=>(s.1,s.2.1)) one:=rfl
 rw [←hR] at R
 have hShut:Shut (az (aq T) (ws.flatMap al)) one (be T ws one):=⟨R.ha,fun s hs h1=>R.cl (s.1,s.2.1) (List.mem_map.2 ⟨s,hs,rfl⟩) h1⟩
 have hmin:∀ S,Shut (az (aq T) (ws.flatMap al)) one S→∀ p∈be T ws one,p∈S:=by
  intro S hS p hp
  refine R.min (·∈S) hS.ha ?_ p hp
  intro s hs h1
  obtain ⟨t,ht,rfl⟩:=List.mem_map.1 hs
  exact hS.cl t ht h1
 obtain ⟨o1,o2,o3⟩:=A.side hlt _ hShut hmin
 have htwo:(0≤one∧one<n)∧(0≤other∧other<n)∧one≠other:=by
  unfold bG gI at h
  simpa using h
 have hpt:∀ p∈be T ws one,0≤p∧p<n:=by
  intro p hp
  refine R.min (fun p=>0≤p∧p<n) htwo.1 ?_ p hp
  intro s hs _
  obtain ⟨t,ht,rfl⟩:=List.mem_map.1 hs
  rcases cY.1 ht with ⟨h1,_⟩ | ⟨g,hg,rfl⟩
  ·
   have:=iu W t h1;exact ⟨this.2.2.1,this.2.2.2⟩
  ·
   obtain ⟨w,hw,hgw⟩:=List.mem_flatMap.1 hg
   have:=iu W g ((A.ok w hw).step g hgw).1
   exact ⟨this.1,this.2.1⟩
 have hlen:(be T ws one).length<64:=by
  have:=List.Nodup.length_le_of_subset R.nd (l₂:=pts n) (fun p hp=>mem_pts.2 (hpt p hp))
  rw [pts_len] at this
  have:=W.2.1
  omega
 refine ⟨⟨isSet_srt R.nd hpt,srt_lt R.nd,fun p hp=>hpt p ((fG _).mem_iff.1 hp),(fG _).mem_iff.2 R.ha,fun hp=>o1 ((fG _).mem_iff.1 hp),?_⟩,hlen⟩
 have key:∀ (T':List Tie) (k:Nat),(∀ i t,T'[i]?=some t→T[k+i]?=some t)→∃ L:ba Int Int,L.length=(T'.filter (cc (srt (be T ws one)))).length∧(L.map (·.2.2)).Nodup∧∀ s∈L,s∈aq T∧s.1∈be T ws one∧s.2.1∉be T ws one∧(k:Int)≤s.2.2:=by
  intro T'
  induction T' with
  | nil=>intro k _;exact ⟨[],rfl,by simp,by simp⟩
  | cons t T' ih=>
   intro k hk
   obtain ⟨L,l1,l2,l3⟩:=ih (k+1) (fun i u hu=>by
    have:=hk (i+1) u (by simpa using hu)
    rw [show k+1+i=k+(i+1) by omega];exact this)
   have hkt:T[k]?=some t:=by simpa using hk 0 t rfl
   by_cases hlv:cc (srt (be T ws one)) t=true
   ·
    have hlv2:(t.1∈be T ws one∧t.2∉be T ws one)∨(t.1∉be T ws one∧t.2∈be T ws one):=by
     unfold cc at hlv
     simp only [(fG _).mem_iff] at hlv
     by_cases a:t.1∈be T ws one <;> by_cases b:t.2∈be T ws one <;> simp [a,b] at hlv ⊢
    obtain ⟨s,s1,s2,s3,s4⟩ : ∃ s,s∈aq T∧s.1∈be T ws one∧s.2.1∉be T ws one∧s.2.2=(k:Int):=by
     rcases hlv2 with ⟨a,b⟩ | ⟨a,b⟩
     ·
      exact ⟨(t.1,t.2,k),cQ.2 ⟨k,t,hkt,rfl,.inl ⟨rfl,rfl⟩⟩,a,b,rfl⟩
     ·
      exact ⟨(t.2,t.1,k),cQ.2 ⟨k,t,hkt,rfl,.inr ⟨rfl,rfl⟩⟩,b,a,rfl⟩
    refine ⟨s::L,by simp [hlv,l1],?_,?_⟩
    ·
     rw [List.map_cons,List.nodup_cons]
     refine ⟨?_,l2⟩
     intro hm
     obtain ⟨u,hu,e⟩:=List.mem_map.1 hm
     have:=(l3 u hu).2.2.2
     omega
    ·
     intro u hu
     rw [List.mem_cons] at hu
     rcases hu with rfl | hu
     ·
      exact ⟨s1,s2,s3,by omega⟩
     ·
      obtain ⟨a,b,d,e⟩:=l3 u hu
      exact ⟨a,b,d,by omega⟩
   ·
    refine ⟨L,by simp [hlv,l1],l2,?_⟩
    intro u hu
    obtain ⟨a,b,d,e⟩:=l3 u hu
    exact ⟨a,b,d,by omega⟩
 obtain ⟨L,l1,l2,l3⟩:=key T 0 (fun i t h=>by simpa using h)
 have:=List.Nodup.length_le_of_subset (cp l2) (l₂:=(ws.flatMap al).filter (f8 (be T ws one))) (by
  intro s hs
  obtain ⟨a,b,d,_⟩:=l3 s hs
  rw [List.mem_filter]
  exact ⟨o2 s a b d,by simp [f8,b,d]⟩)
 rw [l1,o3] at this
 omega
theorem part_true {n:Int} {T:List Tie} {one other:Int} (h:bG n one other=true) {m:Nat} {ps:List Int} (S:SideOk n T one other m ps):cP n T ps one other m=true:=by
 unfold cP
 have:=S.few
 simp [h,S.set,S.one,S.other]
 omega
end Pg
end
section
set_option linter.all false
set_option Elab.async false
set_option maxRecDepth 100000
namespace Pg
open PySem PySem.Spec L2 Ew Mx
variable (c:CA)
theorem setN1 {i:Nat} {g:FN} {δ δ':DSt} {d:D} (h:g δ=some d) (hd:δ.set i (some (.nw d))=δ'):iT i g δ=some (.nx δ'):=by rw [ssetN_e,h,Option.bind_some,hd]
theorem ia {i:Nat} {t:DSt→Option Bool} {F G:FS} {δ:DSt} {x:Option Res} (h:t (frz i δ)=some false) (h2:G δ=x):dN i t F G δ=x:=by rw [sifB_e,h];simpa using h2
theorem ifB_t {i:Nat} {t:DSt→Option Bool} {F G:FS} {δ:DSt} {x:Option Res} (h:t (frz i δ)=some true) (h2:F δ=x):dN i t F G δ=x:=by rw [sifB_e,h];simpa using h2
theorem or_ff {t u:DSt→Option Bool} {δ:DSt} {x:Option Bool} (h:t δ=some false) (h2:u δ=x):bo t u δ=x:=by rw [mX,h];simpa using h2
theorem not_t {t:DSt→Option Bool} {δ:DSt} {b:Bool} (h:t δ=some b):aU t δ=some (!b):=by rw [gR,h];rfl
theorem gf {f:FE} {δ:DSt} {b:Bool} (h:f δ=some (.sh (.bl b))):aj f δ=some b:=by rw [cg,h];rfl
theorem lB {ans:D→Option Bool} {f:FE} {δ:DSt} {d:D} {b:Bool} (h:f δ=some (.sh d)) (ha:ans d=some b):av ans f δ=some (.sh (.bl b)):=by
 unfold av
 rw [h]
 simp [ha]
theorem nJ {f:FE} {δ:DSt} {a b:Bool} (h:f δ=some (.sh (.bl a))):aj (ad cW f (ac (.bl b))) δ=some (!decide (a=b)):=by
 rw [cg,bm (a:=.sh (.bl a)) (b:=.sh (.bl b)) h rfl rfl]
 cases a <;> cases b <;> rfl
theorem meth4 {C:Addr} {name:Str} {m:List D→Option D} {fo f1 f2 f3 f4:FE} {δ:DSt} {fs:List (Str×D)} {r1 r2 r3 r4:R} {d:D} (h:fo δ=some (.sh (.obj C fs))) (hl:fs.lookup name=none) (h1:f1 δ=some r1) (h2:f2 δ=some r2) (h3:f3 δ=some r3) (h4:f4 δ=some r4)
  (hm:m [.obj C fs,r1.view,r2.view,r3.view,r4.view]=some d) (hb:(r1.isBw=false∧r2.isBw=false∧r3.isBw=false∧r4.isBw=false)∨d.flat=true) :
  bQ C name 5 m fo (aa f1 (aa f2 (aa f3 (aa f4 ah)))) δ=some (.sh d):=by
 simp only [dmeth_e,h,Option.bind_some,bn,hl,aP,dQ,h1,h2,h3,h4,and_self,if_true,gS,List.map_cons,List.map_nil,hm]
 rw [if_pos]
 exact ⟨rfl,hb.imp (fun h=>by simp [h]) id⟩
theorem jG {f:FE} {δ:DSt} {n:Int} {T:List Tie} (h:f δ=some (.sh (ay n T))):ad oIx f (ac (.int 0)) δ=some (.sh (.int n)):=bm h rfl (by simp [ay,di])
theorem nK {f:FE} {δ:DSt} {n:Int} {T:List Tie} (h:f δ=some (.sh (ay n T))):ad oIx f (ac (.int 1)) δ=some (.sh (.lst (T.map aK))):=bm h rfl (by simp [ay,cZ])
theorem told_1s {f:FE} {δ:DSt} {n:Int} {T:List Tie} (h:f δ=some (.sh (ay n T))):dP (ad oIx f (ac (.int 1))) (fZ (ac (.int 1))) gt δ=some (.fr (T.tail.map aK)):=by
 unfold dP
 rw [nK h]
 simp [fZ,gt,cut1,List.map_tail]
theorem tail_ok {n:Int} {T:List Tie} (W:b7 n T):b7 n T.tail:=⟨W.1,W.2.1,by have:=W.2.2.1;simp;omega,fun t ht=>W.2.2.2 t (List.mem_of_mem_tail ht)⟩
section
variable (hc:CNe c)
theorem ansW {ws:List (Wlk Int Int)} (hc:CNe c):cN c (ci c ws)=some true∧eW c (ci c ws)=some true∧dJ c (ci c ws)=some false∧eV c (ci c ws)=some false∧gB c (ci c ws)=some false:=by
 simp [cN,eW,dJ,eV,gB,ci]
theorem ansP {ps:List Int} (hc:CNe c):cN c (bT c ps)=some true∧eW c (bT c ps)=some false∧dJ c (bT c ps)=some true∧eV c (bT c ps)=some false∧gB c (bT c ps)=some false:=by
 have h:=Ne.symm hc.1
 simp [cN,eW,dJ,eV,gB,bT,h]
end
theorem lkp {A:Type} {a:A}:List.lookup ("points" : Str) [("points",a)]=some a:=rfl
theorem lkp2 {A:Type} {a:A}:List.lookup ("shows" : Str) [(("points" : Str),a)]=none:=rfl
theorem lkw2 {A:Type} {a:A}:List.lookup ("ties_apart" : Str) [(("ways" : Str),a)]=none:=rfl
theorem fldP {f:FE} {δ:DSt} {ps:List Int} (h:f δ=some (.sh (bT c ps))):cT (isC c.Part) "points" f δ=some (.sh (am ps)):=by
 rw [kP,h]
 simp [bT,lkp]
theorem fldW {f:FE} {δ:DSt} {ws:List (Wlk Int Int)} (h:f δ=some (.sh (ci c ws))):cT (isC c.Ways) "ways" f δ=some (.sh (.lst (ws.map eWk))):=by
 rw [kP,h]
 simp [ci,kF]
end Pg
end
section
set_option linter.all false
set_option Elab.async false
set_option maxRecDepth 100000
namespace Pg
open PySem PySem.Spec L2 Ew Mx
variable (c:CA)
noncomputable def B1 (K:PySem.W.Frag):FS:=(sset 4 (ad aZ (eJ K 0 (a0 c K) (ad aZ (ac (.int 2)) (ad oDiv (ab 3) (ac (.int 2))))) (ad oDiv (ab 3) (ac (.int 2)))))
noncomputable def B2 (K:PySem.W.Frag):FS:=(dw 4 (sset 5 (ao 3 (aC c) (aa (ab 4) (aa (ac (.int 1)) (aa (ad oIx (ab 1) (ac (.int 0))) ah))))))
noncomputable def B3 (K:PySem.W.Frag):FS:=(dw 4 (sset 6 (ad oMod (ad aZ (ad aZ (ab 5) (ac (.int 1))) (ao 3 (aC c) (aa (ab 4) (aa (ac (.int 2)) (aa (ad oSub (ad oIx (ab 1) (ac (.int 0))) (ac (.int 1))) ah))))) (ad oIx (ab 1) (ac (.int 0))))))
noncomputable def B4 (K:PySem.W.Frag):FS:=(dw 4 (sset 7 (ad aZ (ac (.int 1)) (ao 3 (aC c) (aa (ab 4) (aa (ac (.int 3)) (aa (ad oIx (b6 (aa (ac (.int 3)) (aa (ac (.int 4)) (aa (ac (.int 14)) ah)))) (ao 3 (aC c) (aa (ab 4) (aa (ac (.int 4)) (aa (ac (.int 3)) ah))))) ah)))))))
noncomputable def B5 (K:PySem.W.Frag):FS:=(dw 7 (dw 6 (iT 8 (jM 4 (jc c) (aa (ab 2) (aa (ab 5) (aa (ab 6) (aa (ab 7) ah))))))))
noncomputable def B6 (K:PySem.W.Frag):FS:=(dN 8 ((bo (aU (aj (av (cN c) (ab 8)))) (aj (ad oEq (av (eW c) (ab 8)) (av (dJ c) (ab 8)))))) (aL (ac (.bl false))) aD)
noncomputable def B7 (K:PySem.W.Frag):FS:=(dN 8 ((bo (aj (av (eV c) (ab 8))) (aj (av (gB c) (ab 8))))) (aL (ac (.bl false))) aD)
noncomputable def B8 (K:PySem.W.Frag):FS:=(dN 8 (aj (av (dJ c) (ab 8))) (ar (dN 8 ((bo (aj (ad cW ((bQ c.Part "shows" 5 (aW c) (ab 8) (aa (ab 2) (aa (ab 5) (aa (ab 6) (aa (ab 7) ah)))))) (ac (.bl true)))) (aU (aj (ao 2 (eB c) (aa (cT (isC c.Part) "points" (ab 8)) (aa (ad oIx (ab 1) (ac (.int 0))) ah))))))) (aL (ac (.bl false))) aD) (ar (dN 8 ((bo (aj (ad oNotIn (ab 5) (cT (isC c.Part) "points" (ab 8)))) (bo (aj (ad oIn (ab 6) (cT (isC c.Part) "points" (ab 8)))) (aj (ad oGe (ao 2 (bN c) (aa (ad oIx (ab 1) (ac (.int 1))) (aa (cT (isC c.Part) "points" (ab 8)) ah))) (ab 7)))))) (aL (ac (.bl false))) aD) (ar (mh 8 9 (ad oLt (ao 2 (bN c) (aa (dP (ad oIx (ab 1) (ac (.int 1))) (fZ (ac (.int 1))) gt) (aa (cT (isC c.Part) "points" (ab 8)) ah))) (ab 7))) (ar (dN 8 (aj (ad oNe ((bQ c.Part "shows" 5 (aW c) (ab 8) (aa (dnw (f6 c.Web 2 (bF c) (aa (ad oIx (ab 1) (ac (.int 0))) (aa (dP (ad oIx (ab 1) (ac (.int 1))) (fZ (ac (.int 1))) gt) ah)))) (aa (ab 5) (aa (ab 6) (aa (ab 7) ah)))))) (ab 9))) (aL (ac (.bl false))) aD) (ar (smut 8 ([]++[.f c.Part "points"]) iV) (dN 8 (aj (ad cW ((bQ c.Part "shows" 5 (aW c) (ab 8) (aa (ab 2) (aa (ab 5) (aa (ab 6) (aa (ab 7) ah)))))) (ac (.bl false)))) (aL (ac (.bl false))) aD)))))) (ar (dN 8 (aj (ad cW ((bQ c.Ways "ties_apart" 5 (bh c) (ab 8) (aa (ab 2) (aa (ab 5) (aa (ab 6) (aa (ab 7) ah)))))) (ac (.bl true)))) (aL (ac (.bl false))) aD) (ar (dw 7 (dw 6 (dN 8 (aU (aj (ao 5 (eY c) (aa (ab 1) (aa (ab 5) (aa (ab 6) (aa (ab 7) (aa (cT (isC c.Ways) "ways" (ab 8)) ah)))))))) (aL (ac (.bl false))) aD))) (ar (smut 8 ([]++[.f c.Ways "ways"]) mi) (dN 8 (aj (ad cW ((bQ c.Ways "ties_apart" 5 (bh c) (ab 8) (aa (ab 2) (aa (ab 5) (aa (ab 6) (aa (ab 7) ah)))))) (ac (.bl false)))) (aL (ac (.bl false))) aD)))))
noncomputable def kG (K:PySem.W.Frag):FS:=ar (B1 c K) (ar (B2 c K) (ar (B3 c K) (ar (B4 c K) (ar (B5 c K) (ar (B6 c K) (ar (B7 c K) (B8 c K)))))))
theorem body_part (K:PySem.W.Frag) {n:Int} {T:List Tie} (W:b7 n T) {one other:Int} (h2:bG n one other=true) {m:Nat} {ps:List Int} (S:SideOk n T one other m ps) (hc:CNe c) {e0 e3 e4 x9:Option E} :
  ∃ y9,B8 c K [e0,some (.sh (ay n T)),some (.sh (aI c n T)),e3,e4,some (.sh (.int one)),some (.sh (.int other)),some (.sh (.int m)),some (.nw (bT c ps)),x9] =
   some (.nx [e0,some (.sh (ay n T)),some (.sh (aI c n T)),e3,e4,some (.sh (.int one)),some (.sh (.int other)),some (.sh (.int m)),some (.nw (bT c [])),y9]):=by
 obtain ⟨a1,a2,a3,a4,a5⟩:=ansP c (ps:=ps) hc
 have n0:0≤n:=by have:=W.1;omega
 have n8:n≤100:=by have:=W.2.1;omega
 have hT:=W.2.2.1
 have p1:=ft c n T ps one other m n0 n8 (by omega)
 rw [part_true h2 S] at p1
 have r1:=o4 c S.pt S.lt
 have l1:=lw c T ps (by omega)
 have l2:=lw c T.tail ps (by simp;omega)
 have p2:=ft c n T.tail ps one other m n0 n8 (by simp;omega)
 have e2:cP n T.tail ps one other m=decide (((T.tail.filter (cc ps)).length:Int)<m):=by
  unfold cP
  simp [h2,S.set,S.one,S.other]
 rw [e2] at p2
 have p3:=ft c n T [] one other m n0 n8 (by omega)
 have e3':cP n T [] one other m=false:=by
  unfold cP
  simp
 rw [e3'] at p3
 generalize hfew:decide (((T.tail.filter (cc ps)).length:Int)<m)=few at p2
 refine ⟨some (.sh (.bl few)),ifB_t (gf (lB (d:=bT c ps) rfl a3)) ?_⟩
 refine seq1 (ia (or_ff (nJ (a:=true) (meth4 (r1:=.sh (aI c n T)) (r2:=.sh (.int one)) (r3:=.sh (.int other)) (r4:=.sh (.int m)) rfl lkp2 rfl rfl rfl rfl p1 (.inl ⟨rfl,rfl,rfl,rfl⟩))) (not_t (gf (dl (r1:=.sh (am ps)) (r2:=.sh (.int n)) (fldP c rfl) (jG rfl) r1 (.inl ⟨rfl,rfl⟩))))) rfl) ?_
 refine seq1 (ia (or_ff (gf (bm (a:=.sh (.int one)) (b:=.sh (am ps)) (x:=some (.sh (.bl false))) rfl (fldP c rfl) (by simp [am,S.one]))) (or_ff (gf (bm (a:=.sh (.int other)) (b:=.sh (am ps)) (x:=some (.sh (.bl false))) rfl (fldP c rfl) (by simp [am,S.other]))) (gf (bm (b:=.sh (.int m)) (x:=some (.sh (.bl false))) (dl (r1:=.sh (.lst (T.map aK))) (r2:=.sh (am ps)) (nK rfl) (fldP c rfl) l1 (.inl ⟨rfl,rfl⟩)) rfl (by have:=S.few;simp;omega))))) rfl) ?_
 refine seq1 (δ1:=[e0,some (.sh (ay n T)),some (.sh (aI c n T)),e3,e4,some (.sh (.int one)),some (.sh (.int other)),some (.sh (.int m)),some (.nw (bT c ps)),some (.sh (.bl few))]) ?_ ?_
 ·
  unfold mh
  have hf:frz 8 [e0,some (.sh (ay n T)),some (.sh (aI c n T)),e3,e4,some (.sh (.int one)),some (.sh (.int other)),some (.sh (.int m)),some (.nw (bT c ps)),x9]=[e0,some (.sh (ay n T)),some (.sh (aI c n T)),e3,e4,some (.sh (.int one)),some (.sh (.int other)),some (.sh (.int m)),some (.sh (bT c ps)),x9]:=rfl
  rw [hf]
  rw [bm (b:=.sh (.int m)) (x:=some (.sh (.bl few))) (dl (m:=bN c) (δ:=[e0,some (.sh (ay n T)),some (.sh (aI c n T)),e3,e4,some (.sh (.int one)),some (.sh (.int other)),some (.sh (.int m)),some (.sh (bT c ps)),x9]) (r1:=.fr (T.tail.map aK)) (r2:=.sh (am ps)) (told_1s rfl) (fldP c rfl) l2 (.inl ⟨rfl,rfl⟩)) rfl (by rw [←hfew];rfl)]
  rfl
 refine seq1 (ia (gf (bm (a:=.sh (.bl few)) (b:=.sh (.bl few)) (x:=some (.sh (.bl false))) (meth4 (r1:=.sh (aI c n T.tail)) (r2:=.sh (.int one)) (r3:=.sh (.int other)) (r4:=.sh (.int m)) rfl lkp2 ?_ rfl rfl rfl p2 (.inl ⟨rfl,rfl,rfl,rfl⟩)) rfl (by rw [bn,oNe_bb];simp))) rfl) ?_
 ·
  rw [dnw_e]
  erw [oY c (tail_ok W) (r1:=.sh (.int n)) (r2:=.fr (T.tail.map aK)) (by rw [aP,jG (f:=ab 1) rfl,Option.bind_some,aP,told_1s (f:=ab 1) rfl];rfl) rfl rfl rfl rfl]
  rfl
 refine seq1 (δ1:=[e0,some (.sh (ay n T)),some (.sh (aI c n T)),e3,e4,some (.sh (.int one)),some (.sh (.int other)),some (.sh (.int m)),some (.nw (bT c [])),some (.sh (.bl few))]) ?_ ?_
 ·
  simp [smut,sub,Ew.putAt,setF,iV,bT,lkp,am]
 exact ia (nJ (a:=false) (meth4 (r1:=.sh (aI c n T)) (r2:=.sh (.int one)) (r3:=.sh (.int other)) (r4:=.sh (.int m)) rfl lkp2 rfl rfl rfl rfl p3 (.inl ⟨rfl,rfl,rfl,rfl⟩))) rfl
theorem body_ways (K:PySem.W.Frag) {n:Int} {T:List Tie} (W:b7 n T) {one other:Int} (h2:bG n one other=true) {m:Nat} (hm:m≤14) (hm1:1≤m) {ws:List (Wlk Int Int)} (A:gX (aq T) one other m ws) (hl:ws.length=m) (hc:CNe c) {e0 e3 e4 x9:Option E} :
  ∃ y8,B8 c K [e0,some (.sh (ay n T)),some (.sh (aI c n T)),e3,e4,some (.sh (.int one)),some (.sh (.int other)),some (.sh (.int m)),some (.nw (ci c ws)),x9] =
   some (.nx [e0,some (.sh (ay n T)),some (.sh (aI c n T)),e3,e4,some (.sh (.int one)),some (.sh (.int other)),some (.sh (.int m)),y8,x9]):=by
 obtain ⟨a1,a2,a3,a4,a5⟩:=ansW c (ws:=ws) hc
 have WO:=ways_ok W h2 hm A
 have hnl:=jg W A
 have hn:∀ w∈ws,w.2.Nodup:=fun w hw=>(A.ok w hw).namesNodup (eC T)
 have t1:=ke c W h2 WO A.nd (by omega)
 have t2:=lA c W WO hn A.nd (by omega)
 rw [hl] at t1 t2
 have hne:ws≠[]:=by intro e;rw [e] at hl;simp at hl;omega
 have t3:=jC c (n:=n) (T:=T) (one:=one) (other:=other) (many:=m) (ws:=ws.dropLast) (by simp;omega)
 refine ⟨some (.nw (ci c ws.dropLast)),ia (gf (lB (d:=ci c ws) rfl a3)) ?_⟩
 refine seq1 (ia (nJ (a:=true) (meth4 (r1:=.sh (aI c n T)) (r2:=.sh (.int one)) (r3:=.sh (.int other)) (r4:=.sh (.int m)) rfl lkw2 rfl rfl rfl rfl t1 (.inl ⟨rfl,rfl,rfl,rfl⟩))) rfl) ?_
 refine seq1 (δ1:=[e0,some (.sh (ay n T)),some (.sh (aI c n T)),e3,e4,some (.sh (.int one)),some (.sh (.int other)),some (.sh (.int m)),some (.nw (ci c ws)),x9]) ?_ ?_
 ·
  rw [ff,ff]
  exact ia (not_t (gf (call5 (r1:=.sh (ay n T)) (r2:=.sh (.int one)) (r3:=.sh (.int other)) (r4:=.sh (.int m)) (r5:=.sh (.lst (ws.map eWk))) rfl rfl rfl rfl (fldW c rfl) t2 (.inl ⟨rfl,rfl,rfl,rfl,rfl⟩)))) rfl
 refine seq1 (δ1:=[e0,some (.sh (ay n T)),some (.sh (aI c n T)),e3,e4,some (.sh (.int one)),some (.sh (.int other)),some (.sh (.int m)),some (.nw (ci c ws.dropLast)),x9]) ?_ ?_
 ·
  have:¬ws.map eWk=[]:=by simpa using hne
  simp [smut,sub,Ew.putAt,setF,mi,ci,kF,this,List.map_dropLast]
 exact ia (nJ (a:=false) (meth4 (r1:=.sh (aI c n T)) (r2:=.sh (.int one)) (r3:=.sh (.int other)) (r4:=.sh (.int m)) rfl lkw2 rfl rfl rfl rfl t3 (.inl ⟨rfl,rfl,rfl,rfl⟩))) rfl
end Pg
end
section
set_option linter.all false
set_option Elab.async false
set_option maxRecDepth 100000
namespace Pg
open PySem PySem.Spec L2 Ew Mx
variable (c:CA)
theorem law_turn (hc:CNe c) (K:PySem.W.Frag) (ns:List Int) {n:Int} {T:List Tie} (W:b7 n T) (hn2:2≤n) {at_:Int} (ha:0≤at_) (ha2:at_≤100) (x4 x5 x6 x7 x8 x9:Option E) :
  ∃ y4 y5 y6 y7 y8 y9,kG c K [some (.scr K ns),some (.sh (ay n T)),some (.sh (aI c n T)),some (.sh (.int at_)),x4,x5,x6,x7,x8,x9] =
   some (.nx [some (.scr K ns),some (.sh (ay n T)),some (.sh (aI c n T)),some (.sh (.int at_)),y4,y5,y6,y7,y8,y9]):=by
 have hd2:oDiv (.int at_) (.int 2)=some (.sh (.int (at_ / 2))):=divP (by omega) (by omega)
 obtain ⟨v,hv⟩:=iv c K ns (k:=2+at_ / 2) (by omega)
 have s1:B1 c K [some (.scr K ns),some (.sh (ay n T)),some (.sh (aI c n T)),some (.sh (.int at_)),x4,x5,x6,x7,x8,x9]=some (.nx [some (.scr K ns),some (.sh (ay n T)),some (.sh (aI c n T)),some (.sh (.int at_)),some (.sh (.int (v+at_ / 2))),x5,x6,x7,x8,x9]):=by
  refine dF (r:=.sh (.int (v+at_ / 2))) (bm (a:=.sh (.int v)) (b:=.sh (.int (at_ / 2))) (iw c ?_ hv) ?_ rfl) rfl rfl
  ·
   exact bm (a:=.sh (.int 2)) (b:=.sh (.int (at_ / 2))) rfl (bm (a:=.sh (.int at_)) (b:=.sh (.int 2)) rfl rfl hd2) rfl
  ·
   exact bm (a:=.sh (.int at_)) (b:=.sh (.int 2)) rfl rfl hd2
 generalize v+at_ / 2=cell at s1
 obtain ⟨one,d2,o0,o1⟩:=ge c (fa:=ab 4) (fm:=ad oIx (ab 1) (ac (.int 0))) (δ:=[some (.scr K ns),some (.sh (ay n T)),some (.sh (aI c n T)),some (.sh (.int at_)),some (.sh (.int cell)),x5,x6,x7,x8,x9]) (cell:=cell) (many:=n) 1 (by omega) rfl (jG rfl) (by omega)
 have s2:B2 c K [some (.scr K ns),some (.sh (ay n T)),some (.sh (aI c n T)),some (.sh (.int at_)),some (.sh (.int cell)),x5,x6,x7,x8,x9]=some (.nx [some (.scr K ns),some (.sh (ay n T)),some (.sh (aI c n T)),some (.sh (.int at_)),some (.sh (.int cell)),some (.sh (.int one)),x6,x7,x8,x9]):=dF d2 rfl rfl
 obtain ⟨u,d3,u0,u1⟩:=ge c (fa:=ab 4) (fm:=ad oSub (ad oIx (ab 1) (ac (.int 0))) (ac (.int 1))) (δ:=[some (.scr K ns),some (.sh (ay n T)),some (.sh (aI c n T)),some (.sh (.int at_)),some (.sh (.int cell)),some (.sh (.int one)),x6,x7,x8,x9]) (cell:=cell) (many:=n-1) 2 (by omega) rfl (bm (a:=.sh (.int n)) (b:=.sh (.int 1)) (jG rfl) rfl rfl) (by omega)
 have s3:B3 c K [some (.scr K ns),some (.sh (ay n T)),some (.sh (aI c n T)),some (.sh (.int at_)),some (.sh (.int cell)),some (.sh (.int one)),x6,x7,x8,x9]=some (.nx [some (.scr K ns),some (.sh (ay n T)),some (.sh (aI c n T)),some (.sh (.int at_)),some (.sh (.int cell)),some (.sh (.int one)),some (.sh (.int ((one+1+u) % n))),x7,x8,x9]):=by
  refine dF (r:=.sh (.int ((one+1+u) % n))) (bm (a:=.sh (.int (one+1+u))) (b:=.sh (.int n)) (bm (a:=.sh (.int (one+1))) (b:=.sh (.int u)) (bm (a:=.sh (.int one)) (b:=.sh (.int 1)) rfl rfl rfl) d3 rfl) (jG rfl) (modP (by omega))) rfl rfl
 have hoth:0≤(one+1+u) % n∧(one+1+u) % n<n∧one≠(one+1+u) % n:=by
  refine ⟨Int.emod_nonneg _ (by omega),Int.emod_lt_of_pos _ (by omega),?_⟩
  by_cases hlt:one+1+u<n
  ·
   rw [Int.emod_eq_of_lt (by omega) hlt];omega
  ·
   have:(one+1+u) % n=one+1+u-n:=by
    rw [←Int.sub_emod_right,Int.emod_eq_of_lt (by omega) (by omega)]
   omega
 generalize (one+1+u) % n=other at s3 hoth
 have htwo:bG n one other=true:=by
  unfold bG gI
  simp
  omega
 obtain ⟨w0,d4,w1,w2⟩:=ge c (fa:=ab 4) (fm:=ac (.int 3)) (δ:=[some (.scr K ns),some (.sh (ay n T)),some (.sh (aI c n T)),some (.sh (.int at_)),some (.sh (.int cell)),some (.sh (.int one)),some (.sh (.int other)),x7,x8,x9]) (cell:=cell) (many:=3) 4 (by omega) rfl rfl (by omega)
 obtain ⟨top_,x4',y4'⟩:=jh (ks:=[3,4,14]) w1 (by simpa using w2) (fun v=>0<v∧v≤14) (by decide)
 have b3:(3:Nat)≤big:=by decide
 obtain ⟨mm,d5,m0,m1⟩:=ge c (fa:=ab 4) (fm:=ad oIx (b6 (aa (ac (.int 3)) (aa (ac (.int 4)) (aa (ac (.int 14)) ah)))) (ao 3 (aC c) (aa (ab 4) (aa (ac (.int 4)) (aa (ac (.int 3)) ah))))) (δ:=[some (.scr K ns),some (.sh (ay n T)),some (.sh (aI c n T)),some (.sh (.int at_)),some (.sh (.int cell)),some (.sh (.int one)),some (.sh (.int other)),x7,x8,x9]) (cell:=cell) (many:=top_) 3 (by omega) rfl (bm (a:=.sh (.tup [.int 3,.int 4,.int 14])) (by simp [b3]) d4 x4') y4'.1
 obtain ⟨m,hm⟩ : ∃ m:Nat,1+mm=(m:Int):=⟨(1+mm).toNat,by omega⟩
 have s4:B4 c K [some (.scr K ns),some (.sh (ay n T)),some (.sh (aI c n T)),some (.sh (.int at_)),some (.sh (.int cell)),some (.sh (.int one)),some (.sh (.int other)),x7,x8,x9]=some (.nx [some (.scr K ns),some (.sh (ay n T)),some (.sh (aI c n T)),some (.sh (.int at_)),some (.sh (.int cell)),some (.sh (.int one)),some (.sh (.int other)),some (.sh (.int m)),x8,x9]):=by
  refine dF (r:=.sh (.int m)) (bm (a:=.sh (.int 1)) (b:=.sh (.int mm)) rfl d5 ?_) rfl rfl
  show some (R.sh (.int (1+mm)))=_
  rw [hm]
 have hm1:1≤m:=by omega
 have hm14:m≤14:=by omega
 have A:=jW W htwo m hm14
 have hs64:(be T (ax 100 100 (aq T) one other m) one).length<64:=by
  have hl:=cR T
  have hT:=W.2.2.1
  have hnl:=jg W A
  have hfl:((ax 100 100 (aq T) one other m).flatMap al).length≤28:=by rw [dd (fun w hw=>(A.ok w hw).len)];exact hnl
  have hfree:(az (aq T) ((ax 100 100 (aq T) one other m).flatMap al)).length≤56:=by
   unfold az
   have:=iZ (L:=aq T) (ns:=((ax 100 100 (aq T) one other m).flatMap al).map bR)
   simp only [List.length_append,List.length_map]
   omega
  have R:=oA (L:=(az (aq T) ((ax 100 100 (aq T) one other m).flatMap al)).map fun s=>(s.1,s.2.1)) (a:=one) (n:=100) (by simp only [List.length_map];omega)
  have:=List.Nodup.length_le_of_subset R.nd (l₂:=one::((az (aq T) ((ax 100 100 (aq T) one other m).flatMap al)).map fun s=>(s.1,s.2.1)).map (·.2)) (by
   intro p hp
   rcases R.sub p hp with e | ⟨s,hs,e⟩
   ·
    simp [e]
   ·
    exact List.mem_cons_of_mem _ (List.mem_map.2 ⟨s,hs,e⟩))
  simp only [List.length_cons,List.length_map] at this
  have e:(be T (ax 100 100 (aq T) one other m) one).length=(reach 100 ((az (aq T) ((ax 100 100 (aq T) one other m).flatMap al)).map fun s=>(s.1,s.2.1)) one).length:=rfl
  omega
 have ap:=apart_eq c hc W htwo m hm1 hm14 hs64
 generalize hd:(if (ax 100 100 (aq T) one other m).length=m then ci c (ax 100 100 (aq T) one other m) else bT c (srt (be T (ax 100 100 (aq T) one other m) one)))=d at ap
 have s5:B5 c K [some (.scr K ns),some (.sh (ay n T)),some (.sh (aI c n T)),some (.sh (.int at_)),some (.sh (.int cell)),some (.sh (.int one)),some (.sh (.int other)),some (.sh (.int m)),x8,x9]=some (.nx [some (.scr K ns),some (.sh (ay n T)),some (.sh (aI c n T)),some (.sh (.int at_)),some (.sh (.int cell)),some (.sh (.int one)),some (.sh (.int other)),some (.sh (.int m)),some (.nw d),x9]):=by
  show iT 8 _ [some (.scr K ns),some (.sh (ay n T)),some (.sh (aI c n T)),some (.sh (.int at_)),some (.sh (.int cell)),some (.sh (.int one)),some (.sh (.int other)),some (.sh (.int m)),x8,x9]=_
  refine setN1 ?_ rfl
  simp [ap]
 have cls:cN c d=some true∧eV c d=some false∧gB c d=some false∧∃ b,eW c d=some b∧dJ c d=some (!b):=by
  by_cases hl:(ax 100 100 (aq T) one other m).length=m
  ·
   rw [if_pos hl] at hd
   subst hd
   obtain ⟨a1,a2,a3,a4,a5⟩:=ansW c (ws:=ax 100 100 (aq T) one other m) hc
   exact ⟨a1,a4,a5,true,a2,a3⟩
  ·
   rw [if_neg hl] at hd
   subst hd
   obtain ⟨a1,a2,a3,a4,a5⟩:=ansP c (ps:=srt (be T (ax 100 100 (aq T) one other m) one)) hc
   exact ⟨a1,a4,a5,false,a2,a3⟩
 obtain ⟨c1,c2,c3,b,c4,c5⟩:=cls
 have s6:B6 c K [some (.scr K ns),some (.sh (ay n T)),some (.sh (aI c n T)),some (.sh (.int at_)),some (.sh (.int cell)),some (.sh (.int one)),some (.sh (.int other)),some (.sh (.int m)),some (.nw d),x9]=some (.nx [some (.scr K ns),some (.sh (ay n T)),some (.sh (aI c n T)),some (.sh (.int at_)),some (.sh (.int cell)),some (.sh (.int one)),some (.sh (.int other)),some (.sh (.int m)),some (.nw d),x9]):=by
  refine ia (or_ff (not_t (gf (lB (d:=d) rfl c1))) (gf (bm (a:=.sh (.bl b)) (b:=.sh (.bl (!b))) (x:=some (.sh (.bl false))) (lB (d:=d) rfl c4) (lB (d:=d) rfl c5) (by cases b <;> rfl)))) rfl
 have s7:B7 c K [some (.scr K ns),some (.sh (ay n T)),some (.sh (aI c n T)),some (.sh (.int at_)),some (.sh (.int cell)),some (.sh (.int one)),some (.sh (.int other)),some (.sh (.int m)),some (.nw d),x9]=some (.nx [some (.scr K ns),some (.sh (ay n T)),some (.sh (aI c n T)),some (.sh (.int at_)),some (.sh (.int cell)),some (.sh (.int one)),some (.sh (.int other)),some (.sh (.int m)),some (.nw d),x9]):=by
  exact ia (or_ff (gf (lB (d:=d) rfl c2)) (gf (lB (d:=d) rfl c3))) rfl
 unfold kG
 by_cases hl:(ax 100 100 (aq T) one other m).length=m
 ·
  rw [if_pos hl] at hd
  subst hd
  obtain ⟨y8,s8⟩:=body_ways c K W htwo hm14 hm1 A hl hc (e0:=some (.scr K ns)) (e3:=some (.sh (.int at_))) (e4:=some (.sh (.int cell))) (x9:=x9)
  exact ⟨_,_,_,_,_,_,seq1 s1 (seq1 s2 (seq1 s3 (seq1 s4 (seq1 s5 (seq1 s6 (seq1 s7 s8))))))⟩
 ·
  rw [if_neg hl] at hd
  subst hd
  have hlt:(ax 100 100 (aq T) one other m).length<m:=by have:=A.le;omega
  obtain ⟨y9,s8⟩:=body_part c K W htwo (side_ok W htwo A hlt).1 hc (e0:=some (.scr K ns)) (e3:=some (.sh (.int at_))) (e4:=some (.sh (.int cell))) (x9:=x9)
  exact ⟨_,_,_,_,_,_,seq1 s1 (seq1 s2 (seq1 s3 (seq1 s4 (seq1 s5 (seq1 s6 (seq1 s7 s8))))))⟩
theorem o5 (hc:CNe c) (K:PySem.W.Frag) (ns:List Int) {n:Int} {T:List Tie} (W:b7 n T) (hn2:2≤n):∀ (ks:List Nat) (x3 x4 x5 x6 x7 x8 x9:Option E),(∀ k∈ks,k≤100)→
  ∃ y3 y4 y5 y6 y7 y8 y9,bu (au 3) (kG c K) (ks.map fun k=>D.int (0+((k:Nat):Int))) [some (.scr K ns),some (.sh (ay n T)),some (.sh (aI c n T)),x3,x4,x5,x6,x7,x8,x9]=some (.nx [some (.scr K ns),some (.sh (ay n T)),some (.sh (aI c n T)),y3,y4,y5,y6,y7,y8,y9])
 | [],x3,x4,x5,x6,x7,x8,x9,_=>⟨_,_,_,_,_,_,_,rfl⟩
 | k::ks,x3,x4,x5,x6,x7,x8,x9,h=>by
  obtain ⟨y4,y5,y6,y7,y8,y9,hb⟩:=law_turn c hc K ns W hn2 (at_:=0+(k:Int)) (by omega) (by have:=h k (by simp);omega) x4 x5 x6 x7 x8 x9
  obtain ⟨z3,z4,z5,z6,z7,z8,z9,ih⟩:=o5 hc K ns W hn2 ks (some (.sh (.int (0+(k:Int))))) y4 y5 y6 y7 y8 y9 (fun j hj=>h j (by simp [hj]))
  refine ⟨z3,z4,z5,z6,z7,z8,z9,?_⟩
  rw [List.map_cons]
  unfold bu
  have hg:au 3 (.int (0+(k:Int))) [some (.scr K ns),some (.sh (ay n T)),some (.sh (aI c n T)),x3,x4,x5,x6,x7,x8,x9]=some [some (.scr K ns),some (.sh (ay n T)),some (.sh (aI c n T)),some (.sh (.int (0+(k:Int)))),x4,x5,x6,x7,x8,x9]:=rfl
  rw [hg]
  simp only [Option.bind_some]
  rw [hb]
  simp only [Option.bind_some,cG]
  exact ih
theorem law_true (hc:CNe c) (K:PySem.W.Frag):∀ ns:List Int,ns.length≤63→m_law c K ns=some (.bl true):=by
 intro ns _
 obtain ⟨v0,hv0⟩:=iv c K ns (k:=0) (by omega)
 obtain ⟨v1,hv1⟩:=iv c K ns (k:=1) (by omega)
 obtain ⟨n,T,ht,W,hn2⟩:=told_eq c (v0+31*v1) 2 (by omega) (by omega)
 have hF:F_law c K=ar (sset 1 (ao 2 (fV c) (aa (ad aZ (eJ K 0 (a0 c K) (ac (.int 0))) (ad cb (ac (.int 31)) (eJ K 0 (a0 c K) (ac (.int 1))))) (aa (ac (.int 2)) ah)))) (ar (sset 2 (dnw (f6 c.Web 2 (bF c) (aa (ad oIx (ab 1) (ac (.int 0))) (aa (ad oIx (ab 1) (ac (.int 1))) ah))))) (ar (bV (eS (aa (ac (.int 6)) ah)) (au 3) (kG c K)) (aL (ad oEq ((bQ c.Web "ties" 1 (bz c) (ab 2) ah)) (ad oIx (ab 1) (ac (.int 1))))))):=rfl
 obtain ⟨y3,y4,y5,y6,y7,y8,y9,hl⟩:=o5 c hc K ns W hn2 (List.range 6) none none none none none none none (fun k hk=>by simp at hk;omega)
 have hr:F_law c K [some (.scr K ns),none,none,none,none,none,none,none,none,none]=some (.rt (.sh (.bl true))):=by
  rw [hF]
  refine seq1 (δ1:=[some (.scr K ns),some (.sh (ay n T)),none,none,none,none,none,none,none,none]) ?_ (seq1 (δ1:=[some (.scr K ns),some (.sh (ay n T)),some (.sh (aI c n T)),none,none,none,none,none,none,none]) ?_ (seq1 (δ1:=[some (.scr K ns),some (.sh (ay n T)),some (.sh (aI c n T)),y3,y4,y5,y6,y7,y8,y9]) ?_ ?_))
  ·
   refine dF (dl (r1:=.sh (.int (v0+31*v1))) (r2:=.sh (.int 2)) (bm (a:=.sh (.int v0)) (b:=.sh (.int (31*v1))) (iw c rfl hv0) (bm (a:=.sh (.int 31)) (b:=.sh (.int v1)) rfl (iw c rfl hv1) (mulL (by omega) (by omega))) rfl) rfl ht (.inl ⟨rfl,rfl⟩)) rfl rfl
  ·
   refine dF (r:=.sh (aI c n T)) ?_ rfl rfl
   rw [dnw_e]
   erw [oY c W (r1:=.sh (.int n)) (r2:=.sh (.lst (T.map aK))) (by rw [aP,jG (f:=ab 1) rfl,Option.bind_some,aP,nK (f:=ab 1) rfl];rfl) rfl rfl rfl rfl]
   rfl
  ·
   have hi:=rngE (f:=ac (.int 6)) (δ:=[some (.scr K ns),some (.sh (ay n T)),some (.sh (aI c n T)),none,none,none,none,none,none,none]) (j:=6) rfl (by omega) (by omega)
   unfold bV
   rw [hi]
   exact hl
  ·
   refine iq (bm (a:=.sh (.lst (T.map aK))) (b:=.sh (.lst (T.map aK))) (g9 c rfl) (nK rfl) ?_) rfl
   have:=ET.oEqL (show max 1 1+1≤15 by decide) T T
   exact this.trans (by simp)
 unfold m_law runL
 have e:F_law c K (some (.scr K ns)::List.replicate (10-1) none)=some (.rt (.sh (.bl true))):=hr
 rw [e]
 rfl
end Pg
end
section
set_option Elab.async false
set_option linter.all false
set_option maxRecDepth 100000
set_option maxHeartbeats 0
lay_quick PySem.Challenge.rw_earworks_k06_whole_ties_apart
namespace Hx
open PySem PySem.W L2
noncomputable abbrev Pf:Program:=(PySem.W.Fast.tw2368527892694137696 PySem.W.Fast.tw12593238740054877993).toRowW.1
noncomputable def U (i:Nat):Stmt:=Pf.main.body.getD i (.Pass ⟨0,0,0,0⟩)
noncomputable def M (i j:Nat):Stmt:=inClass (U i) j
abbrev vI:=@Value.int
abbrev vR:=@Value.ref
abbrev vS:=@Value.str
abbrev vN:=Value.none
abbrev vT:=@Value.type
abbrev vB:=@Value.bool
abbrev vU:=@Value.builtin
abbrev kH:=@PyData.keyHash
abbrev dE:=@DictEntry.mk
abbrev d_A:=@bp
abbrev d_B:=@aS
abbrev d_S:=@aw
noncomputable abbrev y0:String:=PySem.W.SL.s2766695959194262286x5
noncomputable abbrev y1:String:=PySem.W.SL.s5856160107412720595x4
noncomputable abbrev y2:String:=PySem.W.SL.s658472552662922059x5
noncomputable abbrev y3:String:=PySem.W.SL.s14018661285674007319x4
noncomputable abbrev y4:String:=PySem.W.SL.s7097527257260152453x26
noncomputable abbrev y5:String:=PySem.W.SL.s7174869446012820540x8
noncomputable abbrev y6:String:=PySem.W.SL.s11030030927630378310x26
noncomputable abbrev y7:String:=PySem.W.SL.s10062305145149207511x16
noncomputable abbrev y8:String:=PySem.W.SL.s17162191345867700912x4
noncomputable abbrev y9:String:=PySem.W.SL.s2742458400755230247x6
noncomputable abbrev y10:String:=PySem.W.SL.s11443829558043349243x14
noncomputable abbrev y11:String:=PySem.W.SL.s14755015743595814543x17
noncomputable abbrev y12:String:=PySem.W.SL.s6511155373996960695x17
noncomputable abbrev y13:String:=PySem.W.SL.s12411053484034534018x21
noncomputable abbrev y14:String:=PySem.W.SL.s10220274742760427390x26
noncomputable abbrev y15:String:=PySem.W.SL.s4290257624100764138x5
noncomputable abbrev y16:String:=PySem.W.SL.s4860613602091757760x24
noncomputable abbrev y17:String:=PySem.W.SL.s6070975301684473832x10
noncomputable abbrev y18:String:=PySem.W.SL.s5946037652744460706x9
noncomputable abbrev y19:String:=PySem.W.SL.s4278001404047624695x13
noncomputable abbrev y20:String:=PySem.W.SL.s4209523147560561109x18
def z0:Str:=⟨⟨[60,109,111,100,117,108,101,62]⟩⟩
def z1:Str:=⟨⟨[47,99,108,97,105,109,47,99,117,116,46,112,121]⟩⟩
def z2:Str:=⟨⟨[95,95,109,97,105,110,95,95]⟩⟩
def z3:Str:=⟨⟨[95,95,110,97,109,101,95,95]⟩⟩
def z4:Str:=⟨⟨[101,97,114,119,111,114,107,115,46,97,110,115,119,101,114,115]⟩⟩
def z5:Str:=⟨⟨[95,95,100,111,99,95,95]⟩⟩
def z6:Str:=⟨⟨[95,95,112,97,99,107,97,103,101,95,95]⟩⟩
def z7:Str:=⟨⟨[95,95,108,111,97,100,101,114,95,95]⟩⟩
def z8:Str:=⟨⟨[95,95,115,112,101,99,95,95]⟩⟩
def z9:Str:=⟨⟨[95,95,97,110,110,111,116,97,116,105,111,110,115,95,95]⟩⟩
def z10:Str:=⟨⟨[95,95,98,117,105,108,116,105,110,115,95,95]⟩⟩
def z11:Str:=⟨⟨[95,95,102,105,108,101,95,95]⟩⟩
def z12:Str:=⟨⟨[95,95,99,97,99,104,101,100,95,95]⟩⟩
def z13:Str:=⟨⟨[105,115,95,110,117,109,98,101,114]⟩⟩
def z14:Str:=⟨⟨[97,108,108,95,100,105,102,102,101,114]⟩⟩
def z15:Str:=⟨⟨[104,97,115,95,112,111,105,110,116]⟩⟩
def z16:Str:=⟨⟨[97,114,101,95,116,119,111,95,112,111,105,110,116,115]⟩⟩
def z17:Str:=⟨⟨[97,108,108,95,112,111,105,110,116,115]⟩⟩
def z18:Str:=⟨⟨[105,115,95,112,111,105,110,116,95,115,101,116]⟩⟩
def z19:Str:=⟨⟨[116,105,101,95,98,101,116,119,101,101,110]⟩⟩
def z20:Str:=⟨⟨[105,115,95,116,105,101,100]⟩⟩
def z21:Str:=⟨⟨[112,111,105,110,116,115,95,108,101,102,116,95,116,111]⟩⟩
def z22:Str:=⟨⟨[98,97,99,107,119,97,114,100,115]⟩⟩
def z23:Str:=⟨⟨[114,101,97,99,104,101,100]⟩⟩
def z24:Str:=⟨⟨[105,115,95,119,97,108,107]⟩⟩
def z25:Str:=⟨⟨[105,115,95,119,97,121]⟩⟩
def z26:Str:=⟨⟨[118,97,108,117,101]⟩⟩
def z27:Str:=⟨⟨[101,97,114,119,111,114,107,115,46,98,97,115,105,99,115]⟩⟩
def z28:Str:=⟨⟨[110,117,109,98,101,114,115]⟩⟩
def z29:Str:=⟨⟨[119,101,98]⟩⟩
def z30:Str:=⟨⟨[112,111,105,110,116]⟩⟩
def z31:Str:=⟨⟨[111,110,101]⟩⟩
def z32:Str:=⟨⟨[111,116,104,101,114]⟩⟩
def z33:Str:=⟨⟨[98,101,103,105,110]⟩⟩
def z34:Str:=⟨⟨[115,116,101,112,115]⟩⟩
def z35:Str:=⟨⟨[102,111,117,110,100]⟩⟩
def z36:Str:=⟨⟨[112,108,97,99,101]⟩⟩
def z37:Str:=⟨⟨[115,116,101,112]⟩⟩
def z38:Str:=⟨⟨[119,97,108,107]⟩⟩
def z39:Str:=⟨⟨[99,111,112,105,101,100,95,119,97,108,107,115]⟩⟩
def z40:Str:=⟨⟨[112,108,97,99,101,115,95,111,102]⟩⟩
def z41:Str:=⟨⟨[97,114,101,95,119,97,121,115]⟩⟩
def z42:Str:=⟨⟨[65,110,115,119,101,114]⟩⟩
def z43:Str:=⟨⟨[119,97,108,107,115]⟩⟩
def z44:Str:=⟨⟨[112,108,97,99,101,115]⟩⟩
def z45:Str:=⟨⟨[95,95,109,111,100,117,108,101,95,95]⟩⟩
def z46:Str:=⟨⟨[95,95,113,117,97,108,110,97,109,101,95,95]⟩⟩
def z47:Str:=⟨⟨[95,95,102,105,114,115,116,108,105,110,101,110,111,95,95]⟩⟩
def z48:Str:=⟨⟨[95,95,115,116,97,116,105,99,95,97,116,116,114,105,98,117,116,101,115,95,95]⟩⟩
def z49:Str:=⟨⟨[95,95,100,105,99,116,95,95]⟩⟩
def z50:Str:=⟨⟨[95,95,119,101,97,107,114,101,102,95,95]⟩⟩
def z51:Str:=⟨⟨[66,97,114]⟩⟩
def z52:Str:=⟨⟨[95,95,105,110,105,116,95,95]⟩⟩
def z53:Str:=⟨⟨[115,104,111,119,115]⟩⟩
def z54:Str:=⟨⟨[115,101,108,102]⟩⟩
def z55:Str:=⟨⟨[112,111,105,110,116,115]⟩⟩
def z56:Str:=⟨⟨[66,97,114,46,95,95,105,110,105,116,95,95]⟩⟩
def z57:Str:=⟨⟨[66,97,114,46,115,104,111,119,115]⟩⟩
def z58:Str:=⟨⟨[87,97,121,115]⟩⟩
def z59:Str:=⟨⟨[116,105,101,115,95,97,112,97,114,116]⟩⟩
def z60:Str:=⟨⟨[119,97,121,115]⟩⟩
def z61:Str:=⟨⟨[87,97,121,115,46,95,95,105,110,105,116,95,95]⟩⟩
def z62:Str:=⟨⟨[109,97,110,121]⟩⟩
def z63:Str:=⟨⟨[105,110,110,101,114]⟩⟩
def z64:Str:=⟨⟨[119,97,121]⟩⟩
def z65:Str:=⟨⟨[87,97,121,115,46,115,104,111,119,115]⟩⟩
def z66:Str:=⟨⟨[87,97,121,115,46,116,105,101,115,95,97,112,97,114,116]⟩⟩
def z67:Str:=⟨⟨[87,97,108,108]⟩⟩
def z68:Str:=⟨⟨[87,97,108,108,46,95,95,105,110,105,116,95,95]⟩⟩
def z69:Str:=⟨⟨[87,97,108,108,46,115,104,111,119,115]⟩⟩
def z70:Str:=⟨⟨[101,97,114,119,111,114,107,115,46,101,114,114,111,114,115]⟩⟩
def z71:Str:=⟨⟨[80,97,114,116]⟩⟩
def z72:Str:=⟨⟨[80,97,114,116,46,95,95,105,110,105,116,95,95]⟩⟩
def z73:Str:=⟨⟨[80,97,114,116,46,115,104,111,119,115]⟩⟩
def z74:Str:=⟨⟨[87,101,98,69,114,114,111,114]⟩⟩
def z75:Str:=⟨⟨[66,97,100,87,101,98]⟩⟩
def z76:Str:=⟨⟨[66,97,100,80,111,105,110,116]⟩⟩
def z77:Str:=⟨⟨[101,97,114,119,111,114,107,115,46,102,108,111,119,115]⟩⟩
def z78:Str:=⟨⟨[66,97,100,67,111,117,110,116]⟩⟩
def z79:Str:=⟨⟨[115,116,101,112,115,95,111,102]⟩⟩
def z80:Str:=⟨⟨[115,116,101,112,115,95,98,117,116]⟩⟩
def z81:Str:=⟨⟨[115,104,111,114,116,101,115,116,95,119,97,108,107]⟩⟩
def z82:Str:=⟨⟨[116,117,114,110,101,100,95,98,97,99,107]⟩⟩
def z83:Str:=⟨⟨[115,116,101,112,115,95,105,110]⟩⟩
def z84:Str:=⟨⟨[102,114,101,101,95,115,116,101,112,115]⟩⟩
def z85:Str:=⟨⟨[116,105,101]⟩⟩
def z86:Str:=⟨⟨[101,110,100,115]⟩⟩
def z87:Str:=⟨⟨[109,101,116]⟩⟩
def z88:Str:=⟨⟨[101,97,114,119,111,114,107,115,46,119,101,98,115]⟩⟩
def z89:Str:=⟨⟨[103,111,110,101,95,116,111,111]⟩⟩
def z90:Str:=⟨⟨[109,111,115,116,95,103,111,110,101]⟩⟩
def z91:Str:=⟨⟨[119,97,108,107,115,95,97,112,97,114,116]⟩⟩
def z92:Str:=⟨⟨[115,105,100,101,95,111,102]⟩⟩
def z93:Str:=⟨⟨[77,79,83,84,95,80,79,73,78,84,83]⟩⟩
def z94:Str:=⟨⟨[77,79,83,84,95,84,73,69,83]⟩⟩
def z95:Str:=⟨⟨[105,115,95,116,105,101]⟩⟩
def z96:Str:=⟨⟨[101,110,100]⟩⟩
def z97:Str:=⟨⟨[103,111,110,101]⟩⟩
def z98:Str:=⟨⟨[116,117,114,110]⟩⟩
def z99:Str:=⟨⟨[108,101,102,116]⟩⟩
def z100:Str:=⟨⟨[101,97,114,119,111,114,107,115,46,98,101,116,119,101,101,110]⟩⟩
def iz:Str:=⟨⟨[87,101,98]⟩⟩
def z102:Str:=⟨⟨[77,79,83,84,95,87,65,89,83,95,66,89,95,84,73,69,83]⟩⟩
def ki:Str:=⟨⟨[97,114,101,95,112,111,105,110,116,115,95,111,102]⟩⟩
def kj:Str:=⟨⟨[114,101,102,117,115,101,95,112,111,105,110,116,115]⟩⟩
def kl:Str:=⟨⟨[114,101,102,117,115,101,95,99,111,117,110,116]⟩⟩
def km:Str:=⟨⟨[97,112,97,114,116]⟩⟩
def z107:Str:=⟨⟨[116,105,101,115]⟩⟩
def z108:Str:=⟨⟨[87,101,98,46,95,95,105,110,105,116,95,95]⟩⟩
def z109:Str:=⟨⟨[87,101,98,46,116,105,101,115]⟩⟩
def z110:Str:=⟨⟨[112,97,105,114,115]⟩⟩
def z111:Str:=⟨⟨[109,111,115,116]⟩⟩
def fH:Str:=⟨⟨[108,97,119,95,101,97,114,119,111,114,107,115,95,107,48,54,95,119,104,111,108,101,95,116,105,101,115,95,97,112,97,114,116]⟩⟩
def z113:Str:=⟨⟨[95,108,97,119,95,99,101,108,108,95,97,116]⟩⟩
def z114:Str:=⟨⟨[95,108,97,119,95,100,114,97,119]⟩⟩
def z115:Str:=⟨⟨[95,108,97,119,95,116,111,108,100]⟩⟩
def z116:Str:=⟨⟨[95,108,97,119,95,108,101,97,118,105,110,103]⟩⟩
def z117:Str:=⟨⟨[95,108,97,119,95,114,105,115,105,110,103]⟩⟩
def z118:Str:=⟨⟨[95,108,97,119,95,105,115,95,119,97,108,107]⟩⟩
def z119:Str:=⟨⟨[95,108,97,119,95,105,115,95,119,97,121]⟩⟩
def z120:Str:=⟨⟨[95,108,97,119,95,105,115,95,114,105,110,103]⟩⟩
def z121:Str:=⟨⟨[95,108,97,119,95,97,112,97,114,116]⟩⟩
def z122:Str:=⟨⟨[108,97,119]⟩⟩
def z123:Str:=⟨⟨[95,108,97,119,95,115,99,114,105,112,116]⟩⟩
def z124:Str:=⟨⟨[95,108,97,119,95,107]⟩⟩
def z125:Str:=⟨⟨[95,108,97,119,95,99,101,108,108]⟩⟩
def z126:Str:=⟨⟨[95,108,97,119,95,109,97,110,121]⟩⟩
def z127:Str:=⟨⟨[95,108,97,119,95,112,114,105,109,101,115]⟩⟩
def z128:Str:=⟨⟨[95,108,97,119,95,108,101,97,115,116]⟩⟩
def z129:Str:=⟨⟨[95,108,97,119,95,112,111,105,110,116,115]⟩⟩
def z130:Str:=⟨⟨[95,108,97,119,95,107,105,110,100]⟩⟩
def z131:Str:=⟨⟨[95,108,97,119,95,116,105,101,115]⟩⟩
def z132:Str:=⟨⟨[95,108,97,119,95,116,117,114,110]⟩⟩
def z133:Str:=⟨⟨[95,108,97,119,95,111,110,101]⟩⟩
def z134:Str:=⟨⟨[95,108,97,119,95,111,116,104,101,114]⟩⟩
def z135:Str:=⟨⟨[95,108,97,119,95,109,111,115,116]⟩⟩
def z136:Str:=⟨⟨[95,108,97,119,95,115,111,109,101]⟩⟩
def z137:Str:=⟨⟨[95,108,97,119,95,108,97,115,116]⟩⟩
def z138:Str:=⟨⟨[95,108,97,119,95,112,111,105,110,116]⟩⟩
def z139:Str:=⟨⟨[95,108,97,119,95,116,111,108,100,95,104,101,114,101]⟩⟩
def z140:Str:=⟨⟨[95,108,97,119,95,119,97,108,107]⟩⟩
def z141:Str:=⟨⟨[95,108,97,119,95,102,111,117,110,100]⟩⟩
def z142:Str:=⟨⟨[95,108,97,119,95,103,111,110,101]⟩⟩
def z143:Str:=⟨⟨[95,108,97,119,95,119,97,121]⟩⟩
def z144:Str:=⟨⟨[95,108,97,119,95,119,101,98]⟩⟩
def z145:Str:=⟨⟨[95,108,97,119,95,97,116]⟩⟩
def z146:Str:=⟨⟨[95,108,97,119,95,102,101,119,101,114]⟩⟩
noncomputable def oT (l:List Value):Params→Obj:=fun _=>Obj.mk (vT y0) none (.seq l.toArray 0) #[]
noncomputable def oF (l:List Value):Params→Obj:=fun _=>Obj.mk vN none (.fields l.toArray) #[]
noncomputable def oC (a:Str) (a':Nat) (b:Str) (b' c:Nat) (d:Int) (e f:Int) (h:Nat) (i:Bool) (j k l m:Nat) (n o:Int) (p:Nat):Params→Obj:=fun _=>Obj.mk (vT y1) none (.fields #[vS a a',vS b b',vS z1 c,vI d 0,vI e 0,vI 0 0,vI 0 0,vI f 0,vR h,vB i,vI 181 0,vR j,vN,vR k,vR l,vR m,vI n 0,vI o 0,vS z1 p]) #[]
noncomputable def oG (a b:Str) (s:Stmt):Params→Obj:=fun _=>Obj.mk vN none (.func (FuncData.mk a b (d_A s) (.stmts (d_B s)) (d_S s) 0 [] vN vN vN vN none vN vN 0)) #[]
noncomputable def oH (a b:Str) (s:Stmt) (m:Str) (k r:Nat):Params→Obj:=fun _=>Obj.mk (vT y5) none (.func (FuncData.mk a b (d_A s) (.stmts (d_B s)) (d_S s) 3 [] vN vN vN (vS m k) none (vR r) vN 0)) #[]
def ev {α:Type}:List α→List α
 | []=>[]
 | [x]=>[x]
 | x::_::r=>x::ev r
def od {α:Type}:List α→List α
 | []=>[]
 | [_]=>[]
 | _::y::r=>y::od r
def bt (P:Params):Nat→List (Params→Obj)→BT
 | 0,_=>.nil
 | _+1,[]=>.nil
 | f+1,x::xs=>.node (x P) (bt P f (ev xs)) (bt P f (od xs))
noncomputable def l0:List (Params→Obj):=[boot_o_0,boot_o_1,boot_o_2,boot_o_3,boot_o_4,boot_o_5,boot_o_6,boot_o_7,boot_o_8,boot_o_9,boot_o_10,oT [],oF [],fun _=>Obj.mk (vT y1) none (.fields #[vS z0 182,vS z0 183,vS z1 184,vI 1 0,vI 0 0,vI 0 0,vI 0 0,vI 0 0,vR 11,vB false,vI 181 0,vR 12,vN,vN,vN,vN,vI 185 0,vI 1 0,vS z1 186]) #[],fun _=>Obj.mk (vT y2) none .plain #[some (vR 13),some (vR 3),some (vR 3),none,some (vS z2 164),none,some (vR 0)]]
noncomputable def t0 (P:Params):BT:=bt P 10 l0
noncomputable def l1:List (Params→Obj):=((l0.set 3 (fun P=>Obj.mk (vT y3) none (.dict #[dE (kH P z3) (vS z3 165) (vS z4 287),dE (kH P z5) (vS z5 166) vN,dE (kH P z6) (vS z6 167) vN,dE (kH P z7) (vS z7 168) (vU y4),dE (kH P z8) (vS z8 169) vN,dE (kH P z9) (vS z9 170) (vR 6),dE (kH P z10) (vS z10 171) (vR 4),dE (kH P z11) (vS z11 173) (vS z1 172),dE (kH P z12) (vS z12 174) vN,dE (kH P z13) (vS z13 195) (vR 21),dE (kH P z14) (vS z14 202) (vR 28),dE (kH P z15) (vS z15 210) (vR 35),dE (kH P z16) (vS z16 219) (vR 42),dE (kH P z17) (vS z17 226) (vR 49),dE (kH P z18) (vS z18 232) (vR 54),dE (kH P z19) (vS z19 240) (vR 61),dE (kH P z20) (vS z20 249) (vR 68),dE (kH P z21) (vS z21 255) (vR 73),dE (kH P z22) (vS z22 261) (vR 78),dE (kH P z23) (vS z23 272) (vR 85),dE (kH P z24) (vS z24 278) (vR 90),dE (kH P z25) (vS z25 286) (vR 97)] 22) #[])).set 12 (oF [vI 2 0,vI 0 0,vR 20,vI 4 0,vI 0 0,vR 27,vI 6 0,vI 0 0,vR 34,vI 8 0,vI 0 0,vR 41,vI 10 0,vI 0 0,vR 48,vI 12 0,vI 0 0,vR 53,vI 14 0,vI 0 0,vR 60,vI 16 0,vI 0 0,vR 67,vI 18 0,vI 0 0,vR 72,vI 21 0,vI 0 0,vR 77,vI 23 0,vI 0 0,vR 84,vI 32 0,vI 0 0,vR 89,vI 43 0,vI 0 0,vR 96]))++[oT [],oF [],oT [vS z26 192],oT [],oG z13 z13 (U 1),oC z13 189 z13 190 191 2 1 3 15 true 16 17 18 19 193 2 194,oH z13 z13 (U 1) z27 187 20,oT [],oF [],oT [vS z28 199],oT [],oG z14 z14 (U 2),oC z14 196 z14 197 198 4 1 3 22 true 23 24 25 26 200 4 201,oH z14 z14 (U 2) z27 187 27,oT [],oF [],oT [vS z29 206,vS z30 207],oT [],oG z15 z15 (U 3),oC z15 203 z15 204 205 6 2 3 29 true 30 31 32 33 208 6 209,oH z15 z15 (U 3) z27 187 34,oT [],oF [],oT [vS z29 214,vS z31 215,vS z32 216],oT [],oG z16 z16 (U 4),oC z16 211 z16 212 213 8 3 3 36 true 37 38 39 40 217 8 218,oH z16 z16 (U 4) z27 187 41,oT [],oF [],oT [vS z29 223],oT [],oG z17 z17 (U 5),oC z17 220 z17 221 222 10 1 3 43 true 44 45 46 47 224 10 225,oH z17 z17 (U 5) z27 187 48,oT [],oF [],oG z18 z18 (U 6),fun _=>Obj.mk (vT y1) none (.fields #[vS z18 227,vS z18 228,vS z1 229,vI 12 0,vI 2 0,vI 0 0,vI 0 0,vI 3 0,vR 50,vB true,vI 181 0,vR 51,vN,vN,vN,vR 52,vI 230 0,vI 12 0,vS z1 231]) #[],oH z18 z18 (U 6) z27 187 53,oT [],oF [],oT [vS z31 236,vS z32 237],oT [],oG z19 z19 (U 7),oC z19 233 z19 234 235 14 2 3 55 true 56 57 58 59 238 14 239,oH z19 z19 (U 7) z27 187 60,oT [],oF [],oT [vS z29 244,vS z31 245,vS z32 246],oT [],oG z20 z20 (U 8),oC z20 241 z20 242 243 16 3 3 62 true 63 64 65 66 247 16 248,oH z20 z20 (U 8) z27 187 67,oT [],oF [],oG z21 z21 (U 9),fun _=>Obj.mk (vT y1) none (.fields #[vS z21 250,vS z21 251,vS z1 252,vI 18 0,vI 2 0,vI 0 0,vI 0 0,vI 3 0,vR 69,vB true,vI 181 0,vR 70,vN,vN,vN,vR 71,vI 253 0,vI 18 0,vS z1 254]) #[],oH z21 z21 (U 9) z27 187 72,oT [],oF [],oG z22 z22 (U 10),fun _=>Obj.mk (vT y1) none (.fields #[vS z22 256,vS z22 257,vS z1 258,vI 21 0,vI 1 0,vI 0 0,vI 0 0,vI 3 0,vR 74,vB true,vI 181 0,vR 75,vN,vN,vN,vR 76,vI 259 0,vI 21 0,vS z1 260]) #[],oH z22 z22 (U 10) z27 187 77,oT [],oF [],oT [vS z33 265,vS z34 266,vS z35 267,vS z36 268,vS z37 269],oT [],oG z23 z23 (U 11),oC z23 262 z23 263 264 23 2 3 79 true 80 81 82 83 270 23 271,oH z23 z23 (U 11) z27 187 84,oT [],oF [],oG z24 z24 (U 12),fun _=>Obj.mk (vT y1) none (.fields #[vS z24 273,vS z24 274,vS z1 275,vI 32 0,vI 2 0,vI 0 0,vI 0 0,vI 3 0,vR 86,vB true,vI 181 0,vR 87,vN,vN,vN,vR 88,vI 276 0,vI 32 0,vS z1 277]) #[],oH z24 z24 (U 12) z27 187 89,oT [],oF [],oT [vS z29 282,vS z38 283],oT [],oG z25 z25 (U 13),oC z25 279 z25 280 281 43 2 3 91 true 92 93 94 95 284 43 285,oH z25 z25 (U 13) z27 187 96]
noncomputable def t1 (P:Params):BT:=bt P 10 l1
noncomputable def l2:List (Params→Obj):=((l1.set 3 (fun P=>Obj.mk (vT y3) none (.dict #[dE (kH P z3) (vS z3 165) (vS z4 287),dE (kH P z5) (vS z5 166) vN,dE (kH P z6) (vS z6 167) vN,dE (kH P z7) (vS z7 168) (vU y4),dE (kH P z8) (vS z8 169) vN,dE (kH P z9) (vS z9 170) (vR 6),dE (kH P z10) (vS z10 171) (vR 4),dE (kH P z11) (vS z11 173) (vS z1 172),dE (kH P z12) (vS z12 174) vN,dE (kH P z13) (vS z13 195) (vR 21),dE (kH P z14) (vS z14 202) (vR 28),dE (kH P z15) (vS z15 210) (vR 35),dE (kH P z16) (vS z16 219) (vR 42),dE (kH P z17) (vS z17 226) (vR 49),dE (kH P z18) (vS z18 232) (vR 54),dE (kH P z19) (vS z19 240) (vR 61),dE (kH P z20) (vS z20 249) (vR 68),dE (kH P z21) (vS z21 255) (vR 73),dE (kH P z22) (vS z22 261) (vR 78),dE (kH P z23) (vS z23 272) (vR 85),dE (kH P z24) (vS z24 278) (vR 90),dE (kH P z25) (vS z25 286) (vR 97),dE (kH P z39) (vS z39 294) (vR 102),dE (kH P z40) (vS z40 303) (vR 109),dE (kH P z41) (vS z41 309) (vR 114),dE (kH P z42) (vS z42 329) (vR 124)] 26) #[])).set 12 (oF [vI 2 0,vI 0 0,vR 20,vI 4 0,vI 0 0,vR 27,vI 6 0,vI 0 0,vR 34,vI 8 0,vI 0 0,vR 41,vI 10 0,vI 0 0,vR 48,vI 12 0,vI 0 0,vR 53,vI 14 0,vI 0 0,vR 60,vI 16 0,vI 0 0,vR 67,vI 18 0,vI 0 0,vR 72,vI 21 0,vI 0 0,vR 77,vI 23 0,vI 0 0,vR 84,vI 32 0,vI 0 0,vR 89,vI 43 0,vI 0 0,vR 96,vI 46 0,vI 0 0,vR 101,vI 48 0,vI 0 0,vR 108,vI 53 0,vI 0 0,vR 113,vI 57 0,vI 0 0,vR 120]))++[oT [],oF [],oG z39 z39 (U 15),fun _=>Obj.mk (vT y1) none (.fields #[vS z39 289,vS z39 290,vS z1 291,vI 46 0,vI 1 0,vI 0 0,vI 0 0,vI 3 0,vR 98,vB true,vI 181 0,vR 99,vN,vN,vN,vR 100,vI 292 0,vI 46 0,vS z1 293]) #[],oH z39 z39 (U 15) z4 287 101,oT [],oF [],oT [vS z43 298,vS z44 299,vS z38 300],oT [],oG z40 z40 (U 16),oC z40 295 z40 296 297 48 1 3 103 true 104 105 106 107 301 48 302,oH z40 z40 (U 16) z4 287 108,oT [],oF [],oG z41 z41 (U 17),fun _=>Obj.mk (vT y1) none (.fields #[vS z41 304,vS z41 305,vS z1 306,vI 53 0,vI 5 0,vI 0 0,vI 0 0,vI 3 0,vR 110,vB true,vI 181 0,vR 111,vN,vN,vN,vR 112,vI 307 0,vI 53 0,vS z1 308]) #[],oH z41 z41 (U 17) z4 287 113,oT [],fun _=>Obj.mk (vT y6) none (.fields #[vU y7,vT y8]) #[],fun P=>Obj.mk (vT y3) none (.dict #[dE (kH P z45) (vS z45 317) (vS z4 287),dE (kH P z46) (vS z46 319) (vS z42 318),dE (kH P z47) (vS z47 321) (vI 57 320),dE (kH P z48) (vS z48 322) (vR 122)] 4) #[],oT [],oF [],fun _=>Obj.mk (vT y1) none (.fields #[vS z42 312,vS z42 313,vS z1 314,vI 57 0,vI 0 0,vI 0 0,vI 0 0,vI 0 0,vR 118,vB false,vI 181 0,vR 119,vN,vN,vN,vN,vI 315 0,vI 57 0,vS z1 316]) #[],fun _=>Obj.mk (vT y2) none .plain #[some (vR 120),some (vR 3),some (vR 117),none,some (vS z4 287),none,some (vR 0)],oT [],fun P=>Obj.mk (vT y3) none (.dict #[dE (kH P z45) (vS z45 317) (vS z4 287),dE (kH P z47) (vS z47 321) (vI 57 320),dE (kH P z48) (vS z48 322) (vR 122),dE (kH P z49) (vS z49 324) (vR 125),dE (kH P z50) (vS z50 326) (vR 126),dE (kH P z5) (vS z5 327) vN] 4) #[],fun _=>Obj.mk (vT y8) none (.cls (ClassData.mk z42 [vT y9] [vR 124,vT y9] 123 z42 true [] [] false none false)) #[none,none,some (vS z42 310),some (vS z42 318),some (vU y10),some (vB true)],fun _=>Obj.mk (vT y11) none (.fields #[vS z49 323,vR 124,vU y12,vU y13]) #[],fun _=>Obj.mk (vT y11) none (.fields #[vS z50 325,vR 124,vU y14,vN]) #[],fun _=>Obj.mk (vT y15) none (.fields #[vR 124,vR 124,vR 124]) #[],fun _=>Obj.mk (vT y6) none (.fields #[vU y16,vR 124]) #[]]
noncomputable def t2 (P:Params):BT:=bt P 10 l2
noncomputable def l3:List (Params→Obj):=(((l2.set 3 (fun P=>Obj.mk (vT y3) none (.dict #[dE (kH P z3) (vS z3 165) (vS z4 287),dE (kH P z5) (vS z5 166) vN,dE (kH P z6) (vS z6 167) vN,dE (kH P z7) (vS z7 168) (vU y4),dE (kH P z8) (vS z8 169) vN,dE (kH P z9) (vS z9 170) (vR 6),dE (kH P z10) (vS z10 171) (vR 4),dE (kH P z11) (vS z11 173) (vS z1 172),dE (kH P z12) (vS z12 174) vN,dE (kH P z13) (vS z13 195) (vR 21),dE (kH P z14) (vS z14 202) (vR 28),dE (kH P z15) (vS z15 210) (vR 35),dE (kH P z16) (vS z16 219) (vR 42),dE (kH P z17) (vS z17 226) (vR 49),dE (kH P z18) (vS z18 232) (vR 54),dE (kH P z19) (vS z19 240) (vR 61),dE (kH P z20) (vS z20 249) (vR 68),dE (kH P z21) (vS z21 255) (vR 73),dE (kH P z22) (vS z22 261) (vR 78),dE (kH P z23) (vS z23 272) (vR 85),dE (kH P z24) (vS z24 278) (vR 90),dE (kH P z25) (vS z25 286) (vR 97),dE (kH P z39) (vS z39 294) (vR 102),dE (kH P z40) (vS z40 303) (vR 109),dE (kH P z41) (vS z41 309) (vR 114),dE (kH P z42) (vS z42 329) (vR 124),dE (kH P z51) (vS z51 362) (vR 152)] 27) #[])).set 12 (oF [vI 2 0,vI 0 0,vR 20,vI 4 0,vI 0 0,vR 27,vI 6 0,vI 0 0,vR 34,vI 8 0,vI 0 0,vR 41,vI 10 0,vI 0 0,vR 48,vI 12 0,vI 0 0,vR 53,vI 14 0,vI 0 0,vR 60,vI 16 0,vI 0 0,vR 67,vI 18 0,vI 0 0,vR 72,vI 21 0,vI 0 0,vR 77,vI 23 0,vI 0 0,vR 84,vI 32 0,vI 0 0,vR 89,vI 43 0,vI 0 0,vR 96,vI 46 0,vI 0 0,vR 101,vI 48 0,vI 0 0,vR 108,vI 53 0,vI 0 0,vR 113,vI 57 0,vI 0 0,vR 120,vI 59 0,vI 0 0,vR 134])).set 124 (fun _=>Obj.mk (vT y8) none (.cls (ClassData.mk z42 [vT y9] [vR 124,vT y9] 123 z42 true [] [vR 152] false none false)) #[none,none,some (vS z42 310),some (vS z42 318),some (vU y10),some (vB true)]))++[oT [vR 124],fun _=>Obj.mk (vT y6) none (.fields #[vU y7,vT y8]) #[],fun P=>Obj.mk (vT y3) none (.dict #[dE (kH P z45) (vS z45 337) (vS z4 287),dE (kH P z46) (vS z46 339) (vS z51 338),dE (kH P z47) (vS z47 341) (vI 59 340),dE (kH P z52) (vS z52 349) (vR 142),dE (kH P z53) (vS z53 357) (vR 149),dE (kH P z48) (vS z48 359) (vR 150)] 6) #[],oT [],oF [vI 61 0,vI 4 0,vR 141,vI 64 0,vI 4 0,vR 148],fun _=>Obj.mk (vT y1) none (.fields #[vS z51 332,vS z51 333,vS z1 334,vI 59 0,vI 0 0,vI 0 0,vI 0 0,vI 0 0,vR 132,vB false,vI 181 0,vR 133,vN,vN,vN,vN,vI 335 0,vI 59 0,vS z1 336]) #[],fun _=>Obj.mk (vT y2) none .plain #[some (vR 134),some (vR 3),some (vR 131),none,some (vS z4 287),none,some (vR 0)],oT [],oF [],oT [vS z54 345,vS z55 346],oT [],oG z52 z56 (M 19 0),oC z52 342 z56 343 344 61 2 3 136 true 137 138 139 140 347 61 348,oH z52 z56 (M 19 0) z4 287 141,oT [],oF [],oT [vS z54 353,vS z29 354],oT [],oG z53 z57 (M 19 1),oC z53 350 z57 351 352 64 2 3 143 true 144 145 146 147 355 64 356,oH z53 z57 (M 19 1) z4 287 148,oT [vS z55 358],fun P=>Obj.mk (vT y3) none (.dict #[dE (kH P z45) (vS z45 337) (vS z4 287),dE (kH P z47) (vS z47 341) (vI 59 340),dE (kH P z52) (vS z52 349) (vR 142),dE (kH P z53) (vS z53 357) (vR 149),dE (kH P z48) (vS z48 359) (vR 150),dE (kH P z5) (vS z5 360) vN] 2) #[],fun _=>Obj.mk (vT y8) none (.cls (ClassData.mk z51 [vR 124] [vR 152,vR 124,vT y9] 151 z51 true [] [] false none false)) #[some (vR 129),none,some (vS z51 330),some (vS z51 338),some (vU y10),some (vB true)],fun _=>Obj.mk (vT y15) none (.fields #[vR 152,vR 152,vR 152]) #[],fun _=>Obj.mk (vT y6) none (.fields #[vU y16,vR 152]) #[]]
noncomputable def t3 (P:Params):BT:=bt P 10 l3
noncomputable def l4:List (Params→Obj):=(((l3.set 3 (fun P=>Obj.mk (vT y3) none (.dict #[dE (kH P z3) (vS z3 165) (vS z4 287),dE (kH P z5) (vS z5 166) vN,dE (kH P z6) (vS z6 167) vN,dE (kH P z7) (vS z7 168) (vU y4),dE (kH P z8) (vS z8 169) vN,dE (kH P z9) (vS z9 170) (vR 6),dE (kH P z10) (vS z10 171) (vR 4),dE (kH P z11) (vS z11 173) (vS z1 172),dE (kH P z12) (vS z12 174) vN,dE (kH P z13) (vS z13 195) (vR 21),dE (kH P z14) (vS z14 202) (vR 28),dE (kH P z15) (vS z15 210) (vR 35),dE (kH P z16) (vS z16 219) (vR 42),dE (kH P z17) (vS z17 226) (vR 49),dE (kH P z18) (vS z18 232) (vR 54),dE (kH P z19) (vS z19 240) (vR 61),dE (kH P z20) (vS z20 249) (vR 68),dE (kH P z21) (vS z21 255) (vR 73),dE (kH P z22) (vS z22 261) (vR 78),dE (kH P z23) (vS z23 272) (vR 85),dE (kH P z24) (vS z24 278) (vR 90),dE (kH P z25) (vS z25 286) (vR 97),dE (kH P z39) (vS z39 294) (vR 102),dE (kH P z40) (vS z40 303) (vR 109),dE (kH P z41) (vS z41 309) (vR 114),dE (kH P z42) (vS z42 329) (vR 124),dE (kH P z51) (vS z51 362) (vR 152),dE (kH P z58) (vS z58 411) (vR 185)] 28) #[])).set 12 (oF [vI 2 0,vI 0 0,vR 20,vI 4 0,vI 0 0,vR 27,vI 6 0,vI 0 0,vR 34,vI 8 0,vI 0 0,vR 41,vI 10 0,vI 0 0,vR 48,vI 12 0,vI 0 0,vR 53,vI 14 0,vI 0 0,vR 60,vI 16 0,vI 0 0,vR 67,vI 18 0,vI 0 0,vR 72,vI 21 0,vI 0 0,vR 77,vI 23 0,vI 0 0,vR 84,vI 32 0,vI 0 0,vR 89,vI 43 0,vI 0 0,vR 96,vI 46 0,vI 0 0,vR 101,vI 48 0,vI 0 0,vR 108,vI 53 0,vI 0 0,vR 113,vI 57 0,vI 0 0,vR 120,vI 59 0,vI 0 0,vR 134,vI 68 0,vI 0 0,vR 160])).set 124 (fun _=>Obj.mk (vT y8) none (.cls (ClassData.mk z42 [vT y9] [vR 124,vT y9] 123 z42 true [] [vR 152,vR 185] false none false)) #[none,none,some (vS z42 310),some (vS z42 318),some (vU y10),some (vB true)]))++[oT [vR 124],fun _=>Obj.mk (vT y6) none (.fields #[vU y7,vT y8]) #[],fun P=>Obj.mk (vT y3) none (.dict #[dE (kH P z45) (vS z45 370) (vS z4 287),dE (kH P z46) (vS z46 372) (vS z58 371),dE (kH P z47) (vS z47 374) (vI 68 373),dE (kH P z52) (vS z52 382) (vR 168),dE (kH P z53) (vS z53 395) (vR 175),dE (kH P z59) (vS z59 406) (vR 182),dE (kH P z48) (vS z48 408) (vR 183)] 7) #[],oT [],oF [vI 70 0,vI 4 0,vR 167,vI 73 0,vI 4 0,vR 174,vI 81 0,vI 4 0,vR 181],fun _=>Obj.mk (vT y1) none (.fields #[vS z58 365,vS z58 366,vS z1 367,vI 68 0,vI 0 0,vI 0 0,vI 0 0,vI 0 0,vR 158,vB false,vI 181 0,vR 159,vN,vN,vN,vN,vI 368 0,vI 68 0,vS z1 369]) #[],fun _=>Obj.mk (vT y2) none .plain #[some (vR 160),some (vR 3),some (vR 157),none,some (vS z4 287),none,some (vR 0)],oT [],oF [],oT [vS z54 378,vS z60 379],oT [],oG z52 z61 (M 20 0),oC z52 375 z61 376 377 70 2 3 162 true 163 164 165 166 380 70 381,oH z52 z61 (M 20 0) z4 287 167,oT [],oF [],oT [vS z54 386,vS z29 387,vS z31 388,vS z32 389,vS z62 390,vS z63 391,vS z64 392],oT [],oG z53 z65 (M 20 1),oC z53 383 z65 384 385 73 5 3 169 true 170 171 172 173 393 73 394,oH z53 z65 (M 20 1) z4 287 174,oT [],oF [],oT [vS z54 399,vS z29 400,vS z31 401,vS z32 402,vS z62 403],oT [],oG z59 z66 (M 20 2),oC z59 396 z66 397 398 81 5 3 176 true 177 178 179 180 404 81 405,oH z59 z66 (M 20 2) z4 287 181,oT [vS z60 407],fun P=>Obj.mk (vT y3) none (.dict #[dE (kH P z45) (vS z45 370) (vS z4 287),dE (kH P z47) (vS z47 374) (vI 68 373),dE (kH P z52) (vS z52 382) (vR 168),dE (kH P z53) (vS z53 395) (vR 175),dE (kH P z59) (vS z59 406) (vR 182),dE (kH P z48) (vS z48 408) (vR 183),dE (kH P z5) (vS z5 409) vN] 2) #[],fun _=>Obj.mk (vT y8) none (.cls (ClassData.mk z58 [vR 124] [vR 185,vR 124,vT y9] 184 z58 true [] [] false none false)) #[some (vR 155),none,some (vS z58 363),some (vS z58 371),some (vU y10),some (vB true)],fun _=>Obj.mk (vT y15) none (.fields #[vR 185,vR 185,vR 185]) #[],fun _=>Obj.mk (vT y6) none (.fields #[vU y16,vR 185]) #[]]
noncomputable def t4 (P:Params):BT:=bt P 10 l4
noncomputable def l5:List (Params→Obj):=(((l4.set 3 (fun P=>Obj.mk (vT y3) none (.dict #[dE (kH P z3) (vS z3 165) (vS z4 287),dE (kH P z5) (vS z5 166) vN,dE (kH P z6) (vS z6 167) vN,dE (kH P z7) (vS z7 168) (vU y4),dE (kH P z8) (vS z8 169) vN,dE (kH P z9) (vS z9 170) (vR 6),dE (kH P z10) (vS z10 171) (vR 4),dE (kH P z11) (vS z11 173) (vS z1 172),dE (kH P z12) (vS z12 174) vN,dE (kH P z13) (vS z13 195) (vR 21),dE (kH P z14) (vS z14 202) (vR 28),dE (kH P z15) (vS z15 210) (vR 35),dE (kH P z16) (vS z16 219) (vR 42),dE (kH P z17) (vS z17 226) (vR 49),dE (kH P z18) (vS z18 232) (vR 54),dE (kH P z19) (vS z19 240) (vR 61),dE (kH P z20) (vS z20 249) (vR 68),dE (kH P z21) (vS z21 255) (vR 73),dE (kH P z22) (vS z22 261) (vR 78),dE (kH P z23) (vS z23 272) (vR 85),dE (kH P z24) (vS z24 278) (vR 90),dE (kH P z25) (vS z25 286) (vR 97),dE (kH P z39) (vS z39 294) (vR 102),dE (kH P z40) (vS z40 303) (vR 109),dE (kH P z41) (vS z41 309) (vR 114),dE (kH P z42) (vS z42 329) (vR 124),dE (kH P z51) (vS z51 362) (vR 152),dE (kH P z58) (vS z58 411) (vR 185),dE (kH P z67) (vS z67 442) (vR 209)] 29) #[])).set 12 (oF [vI 2 0,vI 0 0,vR 20,vI 4 0,vI 0 0,vR 27,vI 6 0,vI 0 0,vR 34,vI 8 0,vI 0 0,vR 41,vI 10 0,vI 0 0,vR 48,vI 12 0,vI 0 0,vR 53,vI 14 0,vI 0 0,vR 60,vI 16 0,vI 0 0,vR 67,vI 18 0,vI 0 0,vR 72,vI 21 0,vI 0 0,vR 77,vI 23 0,vI 0 0,vR 84,vI 32 0,vI 0 0,vR 89,vI 43 0,vI 0 0,vR 96,vI 46 0,vI 0 0,vR 101,vI 48 0,vI 0 0,vR 108,vI 53 0,vI 0 0,vR 113,vI 57 0,vI 0 0,vR 120,vI 59 0,vI 0 0,vR 134,vI 68 0,vI 0 0,vR 160,vI 83 0,vI 0 0,vR 193])).set 124 (fun _=>Obj.mk (vT y8) none (.cls (ClassData.mk z42 [vT y9] [vR 124,vT y9] 123 z42 true [] [vR 152,vR 185,vR 209] false none false)) #[none,none,some (vS z42 310),some (vS z42 318),some (vU y10),some (vB true)]))++[oT [vR 124],fun _=>Obj.mk (vT y6) none (.fields #[vU y7,vT y8]) #[],fun P=>Obj.mk (vT y3) none (.dict #[dE (kH P z45) (vS z45 419) (vS z4 287),dE (kH P z46) (vS z46 421) (vS z67 420),dE (kH P z47) (vS z47 423) (vI 83 422),dE (kH P z52) (vS z52 431) (vR 201),dE (kH P z53) (vS z53 437) (vR 206),dE (kH P z48) (vS z48 439) (vR 207)] 6) #[],oT [],oF [vI 85 0,vI 4 0,vR 200,vI 88 0,vI 4 0,vR 205],fun _=>Obj.mk (vT y1) none (.fields #[vS z67 414,vS z67 415,vS z1 416,vI 83 0,vI 0 0,vI 0 0,vI 0 0,vI 0 0,vR 191,vB false,vI 181 0,vR 192,vN,vN,vN,vN,vI 417 0,vI 83 0,vS z1 418]) #[],fun _=>Obj.mk (vT y2) none .plain #[some (vR 193),some (vR 3),some (vR 190),none,some (vS z4 287),none,some (vR 0)],oT [],oF [],oT [vS z54 427,vS z55 428],oT [],oG z52 z68 (M 21 0),oC z52 424 z68 425 426 85 2 3 195 true 196 197 198 199 429 85 430,oH z52 z68 (M 21 0) z4 287 200,oT [],oF [],oG z53 z69 (M 21 1),fun _=>Obj.mk (vT y1) none (.fields #[vS z53 432,vS z69 433,vS z1 434,vI 88 0,vI 5 0,vI 0 0,vI 0 0,vI 3 0,vR 202,vB true,vI 181 0,vR 203,vN,vN,vN,vR 204,vI 435 0,vI 88 0,vS z1 436]) #[],oH z53 z69 (M 21 1) z4 287 205,oT [vS z55 438],fun P=>Obj.mk (vT y3) none (.dict #[dE (kH P z45) (vS z45 419) (vS z4 287),dE (kH P z47) (vS z47 423) (vI 83 422),dE (kH P z52) (vS z52 431) (vR 201),dE (kH P z53) (vS z53 437) (vR 206),dE (kH P z48) (vS z48 439) (vR 207),dE (kH P z5) (vS z5 440) vN] 2) #[],fun _=>Obj.mk (vT y8) none (.cls (ClassData.mk z67 [vR 124] [vR 209,vR 124,vT y9] 208 z67 true [] [] false none false)) #[some (vR 188),none,some (vS z67 412),some (vS z67 420),some (vU y10),some (vB true)],fun _=>Obj.mk (vT y15) none (.fields #[vR 209,vR 209,vR 209]) #[],fun _=>Obj.mk (vT y6) none (.fields #[vU y16,vR 209]) #[]]
noncomputable def t5 (P:Params):BT:=bt P 10 l5
noncomputable def l6:List (Params→Obj):=(((l5.set 3 (fun P=>Obj.mk (vT y3) none (.dict #[dE (kH P z3) (vS z3 165) (vS z70 479),dE (kH P z5) (vS z5 166) vN,dE (kH P z6) (vS z6 167) vN,dE (kH P z7) (vS z7 168) (vU y4),dE (kH P z8) (vS z8 169) vN,dE (kH P z9) (vS z9 170) (vR 6),dE (kH P z10) (vS z10 171) (vR 4),dE (kH P z11) (vS z11 173) (vS z1 172),dE (kH P z12) (vS z12 174) vN,dE (kH P z13) (vS z13 195) (vR 21),dE (kH P z14) (vS z14 202) (vR 28),dE (kH P z15) (vS z15 210) (vR 35),dE (kH P z16) (vS z16 219) (vR 42),dE (kH P z17) (vS z17 226) (vR 49),dE (kH P z18) (vS z18 232) (vR 54),dE (kH P z19) (vS z19 240) (vR 61),dE (kH P z20) (vS z20 249) (vR 68),dE (kH P z21) (vS z21 255) (vR 73),dE (kH P z22) (vS z22 261) (vR 78),dE (kH P z23) (vS z23 272) (vR 85),dE (kH P z24) (vS z24 278) (vR 90),dE (kH P z25) (vS z25 286) (vR 97),dE (kH P z39) (vS z39 294) (vR 102),dE (kH P z40) (vS z40 303) (vR 109),dE (kH P z41) (vS z41 309) (vR 114),dE (kH P z42) (vS z42 329) (vR 124),dE (kH P z51) (vS z51 362) (vR 152),dE (kH P z58) (vS z58 411) (vR 185),dE (kH P z67) (vS z67 442) (vR 209),dE (kH P z71) (vS z71 478) (vR 235)] 30) #[])).set 12 (oF [vI 2 0,vI 0 0,vR 20,vI 4 0,vI 0 0,vR 27,vI 6 0,vI 0 0,vR 34,vI 8 0,vI 0 0,vR 41,vI 10 0,vI 0 0,vR 48,vI 12 0,vI 0 0,vR 53,vI 14 0,vI 0 0,vR 60,vI 16 0,vI 0 0,vR 67,vI 18 0,vI 0 0,vR 72,vI 21 0,vI 0 0,vR 77,vI 23 0,vI 0 0,vR 84,vI 32 0,vI 0 0,vR 89,vI 43 0,vI 0 0,vR 96,vI 46 0,vI 0 0,vR 101,vI 48 0,vI 0 0,vR 108,vI 53 0,vI 0 0,vR 113,vI 57 0,vI 0 0,vR 120,vI 59 0,vI 0 0,vR 134,vI 68 0,vI 0 0,vR 160,vI 83 0,vI 0 0,vR 193,vI 95 0,vI 0 0,vR 217])).set 124 (fun _=>Obj.mk (vT y8) none (.cls (ClassData.mk z42 [vT y9] [vR 124,vT y9] 123 z42 true [] [vR 152,vR 185,vR 209,vR 235] false none false)) #[none,none,some (vS z42 310),some (vS z42 318),some (vU y10),some (vB true)]))++[oT [vR 124],fun _=>Obj.mk (vT y6) none (.fields #[vU y7,vT y8]) #[],fun P=>Obj.mk (vT y3) none (.dict #[dE (kH P z45) (vS z45 450) (vS z4 287),dE (kH P z46) (vS z46 452) (vS z71 451),dE (kH P z47) (vS z47 454) (vI 95 453),dE (kH P z52) (vS z52 462) (vR 225),dE (kH P z53) (vS z53 473) (vR 232),dE (kH P z48) (vS z48 475) (vR 233)] 6) #[],oT [],oF [vI 97 0,vI 4 0,vR 224,vI 100 0,vI 4 0,vR 231],fun _=>Obj.mk (vT y1) none (.fields #[vS z71 445,vS z71 446,vS z1 447,vI 95 0,vI 0 0,vI 0 0,vI 0 0,vI 0 0,vR 215,vB false,vI 181 0,vR 216,vN,vN,vN,vN,vI 448 0,vI 95 0,vS z1 449]) #[],fun _=>Obj.mk (vT y2) none .plain #[some (vR 217),some (vR 3),some (vR 214),none,some (vS z4 287),none,some (vR 0)],oT [],oF [],oT [vS z54 458,vS z55 459],oT [],oG z52 z72 (M 22 0),oC z52 455 z72 456 457 97 2 3 219 true 220 221 222 223 460 97 461,oH z52 z72 (M 22 0) z4 287 224,oT [],oF [],oT [vS z54 466,vS z29 467,vS z31 468,vS z32 469,vS z62 470],oT [],oG z53 z73 (M 22 1),oC z53 463 z73 464 465 100 5 3 226 true 227 228 229 230 471 100 472,oH z53 z73 (M 22 1) z4 287 231,oT [vS z55 474],fun P=>Obj.mk (vT y3) none (.dict #[dE (kH P z45) (vS z45 450) (vS z4 287),dE (kH P z47) (vS z47 454) (vI 95 453),dE (kH P z52) (vS z52 462) (vR 225),dE (kH P z53) (vS z53 473) (vR 232),dE (kH P z48) (vS z48 475) (vR 233),dE (kH P z5) (vS z5 476) vN] 2) #[],fun _=>Obj.mk (vT y8) none (.cls (ClassData.mk z71 [vR 124] [vR 235,vR 124,vT y9] 234 z71 true [] [] false none false)) #[some (vR 212),none,some (vS z71 443),some (vS z71 451),some (vU y10),some (vB true)],fun _=>Obj.mk (vT y15) none (.fields #[vR 235,vR 235,vR 235]) #[],fun _=>Obj.mk (vT y6) none (.fields #[vU y16,vR 235]) #[]]
noncomputable def t6 (P:Params):BT:=bt P 10 l6
noncomputable def l7:List (Params→Obj):=((l6.set 3 (fun P=>Obj.mk (vT y3) none (.dict #[dE (kH P z3) (vS z3 165) (vS z70 479),dE (kH P z5) (vS z5 166) vN,dE (kH P z6) (vS z6 167) vN,dE (kH P z7) (vS z7 168) (vU y4),dE (kH P z8) (vS z8 169) vN,dE (kH P z9) (vS z9 170) (vR 6),dE (kH P z10) (vS z10 171) (vR 4),dE (kH P z11) (vS z11 173) (vS z1 172),dE (kH P z12) (vS z12 174) vN,dE (kH P z13) (vS z13 195) (vR 21),dE (kH P z14) (vS z14 202) (vR 28),dE (kH P z15) (vS z15 210) (vR 35),dE (kH P z16) (vS z16 219) (vR 42),dE (kH P z17) (vS z17 226) (vR 49),dE (kH P z18) (vS z18 232) (vR 54),dE (kH P z19) (vS z19 240) (vR 61),dE (kH P z20) (vS z20 249) (vR 68),dE (kH P z21) (vS z21 255) (vR 73),dE (kH P z22) (vS z22 261) (vR 78),dE (kH P z23) (vS z23 272) (vR 85),dE (kH P z24) (vS z24 278) (vR 90),dE (kH P z25) (vS z25 286) (vR 97),dE (kH P z39) (vS z39 294) (vR 102),dE (kH P z40) (vS z40 303) (vR 109),dE (kH P z41) (vS z41 309) (vR 114),dE (kH P z42) (vS z42 329) (vR 124),dE (kH P z51) (vS z51 362) (vR 152),dE (kH P z58) (vS z58 411) (vR 185),dE (kH P z67) (vS z67 442) (vR 209),dE (kH P z71) (vS z71 478) (vR 235),dE (kH P z74) (vS z74 498) (vR 247),dE (kH P z75) (vS z75 514) (vR 260)] 32) #[])).set 12 (oF [vI 2 0,vI 0 0,vR 20,vI 4 0,vI 0 0,vR 27,vI 6 0,vI 0 0,vR 34,vI 8 0,vI 0 0,vR 41,vI 10 0,vI 0 0,vR 48,vI 12 0,vI 0 0,vR 53,vI 14 0,vI 0 0,vR 60,vI 16 0,vI 0 0,vR 67,vI 18 0,vI 0 0,vR 72,vI 21 0,vI 0 0,vR 77,vI 23 0,vI 0 0,vR 84,vI 32 0,vI 0 0,vR 89,vI 43 0,vI 0 0,vR 96,vI 46 0,vI 0 0,vR 101,vI 48 0,vI 0 0,vR 108,vI 53 0,vI 0 0,vR 113,vI 57 0,vI 0 0,vR 120,vI 59 0,vI 0 0,vR 134,vI 68 0,vI 0 0,vR 160,vI 83 0,vI 0 0,vR 193,vI 95 0,vI 0 0,vR 217,vI 107 0,vI 0 0,vR 243,vI 109 0,vI 0 0,vR 256]))++[oT [vT y17],fun _=>Obj.mk (vT y6) none (.fields #[vU y7,vT y8]) #[],fun P=>Obj.mk (vT y3) none (.dict #[dE (kH P z45) (vS z45 488) (vS z70 479),dE (kH P z46) (vS z46 490) (vS z74 489),dE (kH P z47) (vS z47 492) (vI 107 491),dE (kH P z48) (vS z48 493) (vR 245)] 4) #[],oT [],oF [],fun _=>Obj.mk (vT y1) none (.fields #[vS z74 483,vS z74 484,vS z1 485,vI 107 0,vI 0 0,vI 0 0,vI 0 0,vI 0 0,vR 241,vB false,vI 181 0,vR 242,vN,vN,vN,vN,vI 486 0,vI 107 0,vS z1 487]) #[],fun _=>Obj.mk (vT y2) none .plain #[some (vR 243),some (vR 3),some (vR 240),none,some (vS z70 479),none,some (vR 0)],oT [],fun P=>Obj.mk (vT y3) none (.dict #[dE (kH P z45) (vS z45 488) (vS z70 479),dE (kH P z47) (vS z47 492) (vI 107 491),dE (kH P z48) (vS z48 493) (vR 245),dE (kH P z50) (vS z50 495) (vR 248),dE (kH P z5) (vS z5 496) vN] 3) #[],fun _=>Obj.mk (vT y8) none (.cls (ClassData.mk z74 [vT y17] [vR 247,vT y17,vT y18,vT y19,vT y9] 246 z74 true [] [vR 260] false none false)) #[some (vR 238),none,some (vS z74 481),some (vS z74 489),some (vU y20),some (vB true)],fun _=>Obj.mk (vT y11) none (.fields #[vS z50 494,vR 247,vU y14,vN]) #[],fun _=>Obj.mk (vT y15) none (.fields #[vR 247,vR 247,vR 247]) #[],fun _=>Obj.mk (vT y6) none (.fields #[vU y16,vR 247]) #[],oT [vR 247],fun _=>Obj.mk (vT y6) none (.fields #[vU y7,vT y8]) #[],fun P=>Obj.mk (vT y3) none (.dict #[dE (kH P z45) (vS z45 506) (vS z70 479),dE (kH P z46) (vS z46 508) (vS z75 507),dE (kH P z47) (vS z47 510) (vI 109 509),dE (kH P z48) (vS z48 511) (vR 258)] 4) #[],oT [],oF [],fun _=>Obj.mk (vT y1) none (.fields #[vS z75 501,vS z75 502,vS z1 503,vI 109 0,vI 0 0,vI 0 0,vI 0 0,vI 0 0,vR 254,vB false,vI 181 0,vR 255,vN,vN,vN,vN,vI 504 0,vI 109 0,vS z1 505]) #[],fun _=>Obj.mk (vT y2) none .plain #[some (vR 256),some (vR 3),some (vR 253),none,some (vS z70 479),none,some (vR 0)],oT [],fun P=>Obj.mk (vT y3) none (.dict #[dE (kH P z45) (vS z45 506) (vS z70 479),dE (kH P z47) (vS z47 510) (vI 109 509),dE (kH P z48) (vS z48 511) (vR 258),dE (kH P z5) (vS z5 512) vN] 2) #[],fun _=>Obj.mk (vT y8) none (.cls (ClassData.mk z75 [vR 247] [vR 260,vR 247,vT y17,vT y18,vT y19,vT y9] 259 z75 true [] [] false none false)) #[some (vR 251),none,some (vS z75 499),some (vS z75 507),some (vU y20),some (vB true)],fun _=>Obj.mk (vT y15) none (.fields #[vR 260,vR 260,vR 260]) #[],fun _=>Obj.mk (vT y6) none (.fields #[vU y16,vR 260]) #[]]
noncomputable def t7 (P:Params):BT:=bt P 10 l7
noncomputable def l8:List (Params→Obj):=(((l7.set 3 (fun P=>Obj.mk (vT y3) none (.dict #[dE (kH P z3) (vS z3 165) (vS z70 479),dE (kH P z5) (vS z5 166) vN,dE (kH P z6) (vS z6 167) vN,dE (kH P z7) (vS z7 168) (vU y4),dE (kH P z8) (vS z8 169) vN,dE (kH P z9) (vS z9 170) (vR 6),dE (kH P z10) (vS z10 171) (vR 4),dE (kH P z11) (vS z11 173) (vS z1 172),dE (kH P z12) (vS z12 174) vN,dE (kH P z13) (vS z13 195) (vR 21),dE (kH P z14) (vS z14 202) (vR 28),dE (kH P z15) (vS z15 210) (vR 35),dE (kH P z16) (vS z16 219) (vR 42),dE (kH P z17) (vS z17 226) (vR 49),dE (kH P z18) (vS z18 232) (vR 54),dE (kH P z19) (vS z19 240) (vR 61),dE (kH P z20) (vS z20 249) (vR 68),dE (kH P z21) (vS z21 255) (vR 73),dE (kH P z22) (vS z22 261) (vR 78),dE (kH P z23) (vS z23 272) (vR 85),dE (kH P z24) (vS z24 278) (vR 90),dE (kH P z25) (vS z25 286) (vR 97),dE (kH P z39) (vS z39 294) (vR 102),dE (kH P z40) (vS z40 303) (vR 109),dE (kH P z41) (vS z41 309) (vR 114),dE (kH P z42) (vS z42 329) (vR 124),dE (kH P z51) (vS z51 362) (vR 152),dE (kH P z58) (vS z58 411) (vR 185),dE (kH P z67) (vS z67 442) (vR 209),dE (kH P z71) (vS z71 478) (vR 235),dE (kH P z74) (vS z74 498) (vR 247),dE (kH P z75) (vS z75 514) (vR 260),dE (kH P z76) (vS z76 530) (vR 272)] 33) #[])).set 12 (oF [vI 2 0,vI 0 0,vR 20,vI 4 0,vI 0 0,vR 27,vI 6 0,vI 0 0,vR 34,vI 8 0,vI 0 0,vR 41,vI 10 0,vI 0 0,vR 48,vI 12 0,vI 0 0,vR 53,vI 14 0,vI 0 0,vR 60,vI 16 0,vI 0 0,vR 67,vI 18 0,vI 0 0,vR 72,vI 21 0,vI 0 0,vR 77,vI 23 0,vI 0 0,vR 84,vI 32 0,vI 0 0,vR 89,vI 43 0,vI 0 0,vR 96,vI 46 0,vI 0 0,vR 101,vI 48 0,vI 0 0,vR 108,vI 53 0,vI 0 0,vR 113,vI 57 0,vI 0 0,vR 120,vI 59 0,vI 0 0,vR 134,vI 68 0,vI 0 0,vR 160,vI 83 0,vI 0 0,vR 193,vI 95 0,vI 0 0,vR 217,vI 107 0,vI 0 0,vR 243,vI 109 0,vI 0 0,vR 256,vI 111 0,vI 0 0,vR 268])).set 247 (fun _=>Obj.mk (vT y8) none (.cls (ClassData.mk z74 [vT y17] [vR 247,vT y17,vT y18,vT y19,vT y9] 246 z74 true [] [vR 260,vR 272] false none false)) #[some (vR 238),none,some (vS z74 481),some (vS z74 489),some (vU y20),some (vB true)]))++[oT [vR 247],fun _=>Obj.mk (vT y6) none (.fields #[vU y7,vT y8]) #[],fun P=>Obj.mk (vT y3) none (.dict #[dE (kH P z45) (vS z45 522) (vS z70 479),dE (kH P z46) (vS z46 524) (vS z76 523),dE (kH P z47) (vS z47 526) (vI 111 525),dE (kH P z48) (vS z48 527) (vR 270)] 4) #[],oT [],oF [],fun _=>Obj.mk (vT y1) none (.fields #[vS z76 517,vS z76 518,vS z1 519,vI 111 0,vI 0 0,vI 0 0,vI 0 0,vI 0 0,vR 266,vB false,vI 181 0,vR 267,vN,vN,vN,vN,vI 520 0,vI 111 0,vS z1 521]) #[],fun _=>Obj.mk (vT y2) none .plain #[some (vR 268),some (vR 3),some (vR 265),none,some (vS z70 479),none,some (vR 0)],oT [],fun P=>Obj.mk (vT y3) none (.dict #[dE (kH P z45) (vS z45 522) (vS z70 479),dE (kH P z47) (vS z47 526) (vI 111 525),dE (kH P z48) (vS z48 527) (vR 270),dE (kH P z5) (vS z5 528) vN] 2) #[],fun _=>Obj.mk (vT y8) none (.cls (ClassData.mk z76 [vR 247] [vR 272,vR 247,vT y17,vT y18,vT y19,vT y9] 271 z76 true [] [] false none false)) #[some (vR 263),none,some (vS z76 515),some (vS z76 523),some (vU y20),some (vB true)],fun _=>Obj.mk (vT y15) none (.fields #[vR 272,vR 272,vR 272]) #[],fun _=>Obj.mk (vT y6) none (.fields #[vU y16,vR 272]) #[]]
noncomputable def t8 (P:Params):BT:=bt P 10 l8
noncomputable def l9:List (Params→Obj):=(((l8.set 3 (fun P=>Obj.mk (vT y3) none (.dict #[dE (kH P z3) (vS z3 165) (vS z77 547),dE (kH P z5) (vS z5 166) vN,dE (kH P z6) (vS z6 167) vN,dE (kH P z7) (vS z7 168) (vU y4),dE (kH P z8) (vS z8 169) vN,dE (kH P z9) (vS z9 170) (vR 6),dE (kH P z10) (vS z10 171) (vR 4),dE (kH P z11) (vS z11 173) (vS z1 172),dE (kH P z12) (vS z12 174) vN,dE (kH P z13) (vS z13 195) (vR 21),dE (kH P z14) (vS z14 202) (vR 28),dE (kH P z15) (vS z15 210) (vR 35),dE (kH P z16) (vS z16 219) (vR 42),dE (kH P z17) (vS z17 226) (vR 49),dE (kH P z18) (vS z18 232) (vR 54),dE (kH P z19) (vS z19 240) (vR 61),dE (kH P z20) (vS z20 249) (vR 68),dE (kH P z21) (vS z21 255) (vR 73),dE (kH P z22) (vS z22 261) (vR 78),dE (kH P z23) (vS z23 272) (vR 85),dE (kH P z24) (vS z24 278) (vR 90),dE (kH P z25) (vS z25 286) (vR 97),dE (kH P z39) (vS z39 294) (vR 102),dE (kH P z40) (vS z40 303) (vR 109),dE (kH P z41) (vS z41 309) (vR 114),dE (kH P z42) (vS z42 329) (vR 124),dE (kH P z51) (vS z51 362) (vR 152),dE (kH P z58) (vS z58 411) (vR 185),dE (kH P z67) (vS z67 442) (vR 209),dE (kH P z71) (vS z71 478) (vR 235),dE (kH P z74) (vS z74 498) (vR 247),dE (kH P z75) (vS z75 514) (vR 260),dE (kH P z76) (vS z76 530) (vR 272),dE (kH P z78) (vS z78 546) (vR 284),dE (kH P z79) (vS z79 558) (vR 293),dE (kH P z80) (vS z80 564) (vR 298),dE (kH P z81) (vS z81 578) (vR 305),dE (kH P z82) (vS z82 585) (vR 312),dE (kH P z83) (vS z83 592) (vR 319),dE (kH P z84) (vS z84 598) (vR 324)] 40) #[])).set 12 (oF [vI 2 0,vI 0 0,vR 20,vI 4 0,vI 0 0,vR 27,vI 6 0,vI 0 0,vR 34,vI 8 0,vI 0 0,vR 41,vI 10 0,vI 0 0,vR 48,vI 12 0,vI 0 0,vR 53,vI 14 0,vI 0 0,vR 60,vI 16 0,vI 0 0,vR 67,vI 18 0,vI 0 0,vR 72,vI 21 0,vI 0 0,vR 77,vI 23 0,vI 0 0,vR 84,vI 32 0,vI 0 0,vR 89,vI 43 0,vI 0 0,vR 96,vI 46 0,vI 0 0,vR 101,vI 48 0,vI 0 0,vR 108,vI 53 0,vI 0 0,vR 113,vI 57 0,vI 0 0,vR 120,vI 59 0,vI 0 0,vR 134,vI 68 0,vI 0 0,vR 160,vI 83 0,vI 0 0,vR 193,vI 95 0,vI 0 0,vR 217,vI 107 0,vI 0 0,vR 243,vI 109 0,vI 0 0,vR 256,vI 111 0,vI 0 0,vR 268,vI 113 0,vI 0 0,vR 280,vI 116 0,vI 0 0,vR 292,vI 122 0,vI 0 0,vR 297,vI 124 0,vI 0 0,vR 304,vI 138 0,vI 0 0,vR 311,vI 140 0,vI 0 0,vR 318,vI 142 0,vI 0 0,vR 323])).set 247 (fun _=>Obj.mk (vT y8) none (.cls (ClassData.mk z74 [vT y17] [vR 247,vT y17,vT y18,vT y19,vT y9] 246 z74 true [] [vR 260,vR 272,vR 284] false none false)) #[some (vR 238),none,some (vS z74 481),some (vS z74 489),some (vU y20),some (vB true)]))++[oT [vR 247],fun _=>Obj.mk (vT y6) none (.fields #[vU y7,vT y8]) #[],fun P=>Obj.mk (vT y3) none (.dict #[dE (kH P z45) (vS z45 538) (vS z70 479),dE (kH P z46) (vS z46 540) (vS z78 539),dE (kH P z47) (vS z47 542) (vI 113 541),dE (kH P z48) (vS z48 543) (vR 282)] 4) #[],oT [],oF [],fun _=>Obj.mk (vT y1) none (.fields #[vS z78 533,vS z78 534,vS z1 535,vI 113 0,vI 0 0,vI 0 0,vI 0 0,vI 0 0,vR 278,vB false,vI 181 0,vR 279,vN,vN,vN,vN,vI 536 0,vI 113 0,vS z1 537]) #[],fun _=>Obj.mk (vT y2) none .plain #[some (vR 280),some (vR 3),some (vR 277),none,some (vS z70 479),none,some (vR 0)],oT [],fun P=>Obj.mk (vT y3) none (.dict #[dE (kH P z45) (vS z45 538) (vS z70 479),dE (kH P z47) (vS z47 542) (vI 113 541),dE (kH P z48) (vS z48 543) (vR 282),dE (kH P z5) (vS z5 544) vN] 2) #[],fun _=>Obj.mk (vT y8) none (.cls (ClassData.mk z78 [vR 247] [vR 284,vR 247,vT y17,vT y18,vT y19,vT y9] 283 z78 true [] [] false none false)) #[some (vR 275),none,some (vS z78 531),some (vS z78 539),some (vU y20),some (vB true)],fun _=>Obj.mk (vT y15) none (.fields #[vR 284,vR 284,vR 284]) #[],fun _=>Obj.mk (vT y6) none (.fields #[vU y16,vR 284]) #[],oT [],oF [],oT [vS z29 552,vS z34 553,vS z36 554,vS z85 555],oT [],oG z79 z79 (U 29),oC z79 549 z79 550 551 116 1 3 287 true 288 289 290 291 556 116 557,oH z79 z79 (U 29) z77 547 292,oT [],oF [],oG z80 z80 (U 30),fun _=>Obj.mk (vT y1) none (.fields #[vS z80 559,vS z80 560,vS z1 561,vI 122 0,vI 2 0,vI 0 0,vI 0 0,vI 3 0,vR 294,vB true,vI 181 0,vR 295,vN,vN,vN,vR 296,vI 562 0,vI 122 0,vS z1 563]) #[],oH z80 z80 (U 30) z77 547 297,oT [],oF [],oT [vS z34 568,vS z33 569,vS z86 570,vS z43 571,vS z87 572,vS z36 573,vS z55 574,vS z37 575],oT [],oG z81 z81 (U 31),oC z81 565 z81 566 567 124 3 3 299 true 300 301 302 303 576 124 577,oH z81 z81 (U 31) z77 547 304,oT [],oF [],oT [vS z37 582],oT [],oG z82 z82 (U 32),oC z82 579 z82 580 581 138 1 3 306 true 307 308 309 310 583 138 584,oH z82 z82 (U 32) z77 547 311,oT [],oF [],oT [vS z38 589],oT [],oG z83 z83 (U 33),oC z83 586 z83 587 588 140 1 3 313 true 314 315 316 317 590 140 591,oH z83 z83 (U 33) z77 547 318,oT [],oF [],oG z84 z84 (U 34),fun _=>Obj.mk (vT y1) none (.fields #[vS z84 593,vS z84 594,vS z1 595,vI 142 0,vI 2 0,vI 0 0,vI 0 0,vI 3 0,vR 320,vB true,vI 181 0,vR 321,vN,vN,vN,vR 322,vI 596 0,vI 142 0,vS z1 597]) #[],oH z84 z84 (U 34) z77 547 323]
noncomputable def t9 (P:Params):BT:=bt P 10 l9
noncomputable def l10:List (Params→Obj):=((l9.set 3 (fun P=>Obj.mk (vT y3) none (.dict #[dE (kH P z3) (vS z3 165) (vS z88 642),dE (kH P z5) (vS z5 166) vN,dE (kH P z6) (vS z6 167) vN,dE (kH P z7) (vS z7 168) (vU y4),dE (kH P z8) (vS z8 169) vN,dE (kH P z9) (vS z9 170) (vR 6),dE (kH P z10) (vS z10 171) (vR 4),dE (kH P z11) (vS z11 173) (vS z1 172),dE (kH P z12) (vS z12 174) vN,dE (kH P z13) (vS z13 195) (vR 21),dE (kH P z14) (vS z14 202) (vR 28),dE (kH P z15) (vS z15 210) (vR 35),dE (kH P z16) (vS z16 219) (vR 42),dE (kH P z17) (vS z17 226) (vR 49),dE (kH P z18) (vS z18 232) (vR 54),dE (kH P z19) (vS z19 240) (vR 61),dE (kH P z20) (vS z20 249) (vR 68),dE (kH P z21) (vS z21 255) (vR 73),dE (kH P z22) (vS z22 261) (vR 78),dE (kH P z23) (vS z23 272) (vR 85),dE (kH P z24) (vS z24 278) (vR 90),dE (kH P z25) (vS z25 286) (vR 97),dE (kH P z39) (vS z39 294) (vR 102),dE (kH P z40) (vS z40 303) (vR 109),dE (kH P z41) (vS z41 309) (vR 114),dE (kH P z42) (vS z42 329) (vR 124),dE (kH P z51) (vS z51 362) (vR 152),dE (kH P z58) (vS z58 411) (vR 185),dE (kH P z67) (vS z67 442) (vR 209),dE (kH P z71) (vS z71 478) (vR 235),dE (kH P z74) (vS z74 498) (vR 247),dE (kH P z75) (vS z75 514) (vR 260),dE (kH P z76) (vS z76 530) (vR 272),dE (kH P z78) (vS z78 546) (vR 284),dE (kH P z79) (vS z79 558) (vR 293),dE (kH P z80) (vS z80 564) (vR 298),dE (kH P z81) (vS z81 578) (vR 305),dE (kH P z82) (vS z82 585) (vR 312),dE (kH P z83) (vS z83 592) (vR 319),dE (kH P z84) (vS z84 598) (vR 324),dE (kH P z89) (vS z89 604) (vR 329),dE (kH P z90) (vS z90 617) (vR 336),dE (kH P z91) (vS z91 630) (vR 343),dE (kH P z92) (vS z92 641) (vR 350),dE (kH P z93) (vS z93 645) (vI 8 644),dE (kH P z94) (vS z94 647) (vI 14 646),dE (kH P z95) (vS z95 655) (vR 357)] 47) #[])).set 12 (oF [vI 2 0,vI 0 0,vR 20,vI 4 0,vI 0 0,vR 27,vI 6 0,vI 0 0,vR 34,vI 8 0,vI 0 0,vR 41,vI 10 0,vI 0 0,vR 48,vI 12 0,vI 0 0,vR 53,vI 14 0,vI 0 0,vR 60,vI 16 0,vI 0 0,vR 67,vI 18 0,vI 0 0,vR 72,vI 21 0,vI 0 0,vR 77,vI 23 0,vI 0 0,vR 84,vI 32 0,vI 0 0,vR 89,vI 43 0,vI 0 0,vR 96,vI 46 0,vI 0 0,vR 101,vI 48 0,vI 0 0,vR 108,vI 53 0,vI 0 0,vR 113,vI 57 0,vI 0 0,vR 120,vI 59 0,vI 0 0,vR 134,vI 68 0,vI 0 0,vR 160,vI 83 0,vI 0 0,vR 193,vI 95 0,vI 0 0,vR 217,vI 107 0,vI 0 0,vR 243,vI 109 0,vI 0 0,vR 256,vI 111 0,vI 0 0,vR 268,vI 113 0,vI 0 0,vR 280,vI 116 0,vI 0 0,vR 292,vI 122 0,vI 0 0,vR 297,vI 124 0,vI 0 0,vR 304,vI 138 0,vI 0 0,vR 311,vI 140 0,vI 0 0,vR 318,vI 142 0,vI 0 0,vR 323,vI 144 0,vI 0 0,vR 328,vI 148 0,vI 0 0,vR 335,vI 156 0,vI 0 0,vR 342,vI 165 0,vI 0 0,vR 349,vI 173 0,vI 0 0,vR 356]))++[oT [],oF [],oG z89 z89 (U 35),fun _=>Obj.mk (vT y1) none (.fields #[vS z89 599,vS z89 600,vS z1 601,vI 144 0,vI 2 0,vI 0 0,vI 0 0,vI 3 0,vR 325,vB true,vI 181 0,vR 326,vN,vN,vN,vR 327,vI 602 0,vI 144 0,vS z1 603]) #[],oH z89 z89 (U 35) z77 547 328,oT [],oF [],oT [vS z34 608,vS z33 609,vS z96 610,vS z62 611,vS z97 612,vS z98 613,vS z38 614],oT [],oG z90 z90 (U 36),oC z90 605 z90 606 607 148 4 3 330 true 331 332 333 334 615 148 616,oH z90 z90 (U 36) z77 547 335,oT [],oF [],oT [vS z34 621,vS z33 622,vS z96 623,vS z62 624,vS z99 625,vS z43 626,vS z38 627],oT [],oG z91 z91 (U 37),oC z91 618 z91 619 620 156 4 3 337 true 338 339 340 341 628 156 629,oH z91 z91 (U 37) z77 547 342,oT [],oF [],oT [vS z34 634,vS z43 635,vS z33 636,vS z97 637,vS z38 638],oT [],oG z92 z92 (U 38),oC z92 631 z92 632 633 165 3 3 344 true 345 346 347 348 639 165 640,oH z92 z92 (U 38) z77 547 349,oT [],oF [],oT [vS z26 651,vS z55 652],oT [],oG z95 z95 (U 42),oC z95 648 z95 649 650 173 2 3 351 true 352 353 354 355 653 173 654,oH z95 z95 (U 42) z88 642 356]
noncomputable def t10 (P:Params):BT:=bt P 10 l10
noncomputable def l11:List (Params→Obj):=((l10.set 3 (fun P=>Obj.mk (vT y3) none (.dict #[dE (kH P z3) (vS z3 165) (vS z100 691),dE (kH P z5) (vS z5 166) vN,dE (kH P z6) (vS z6 167) vN,dE (kH P z7) (vS z7 168) (vU y4),dE (kH P z8) (vS z8 169) vN,dE (kH P z9) (vS z9 170) (vR 6),dE (kH P z10) (vS z10 171) (vR 4),dE (kH P z11) (vS z11 173) (vS z1 172),dE (kH P z12) (vS z12 174) vN,dE (kH P z13) (vS z13 195) (vR 21),dE (kH P z14) (vS z14 202) (vR 28),dE (kH P z15) (vS z15 210) (vR 35),dE (kH P z16) (vS z16 219) (vR 42),dE (kH P z17) (vS z17 226) (vR 49),dE (kH P z18) (vS z18 232) (vR 54),dE (kH P z19) (vS z19 240) (vR 61),dE (kH P z20) (vS z20 249) (vR 68),dE (kH P z21) (vS z21 255) (vR 73),dE (kH P z22) (vS z22 261) (vR 78),dE (kH P z23) (vS z23 272) (vR 85),dE (kH P z24) (vS z24 278) (vR 90),dE (kH P z25) (vS z25 286) (vR 97),dE (kH P z39) (vS z39 294) (vR 102),dE (kH P z40) (vS z40 303) (vR 109),dE (kH P z41) (vS z41 309) (vR 114),dE (kH P z42) (vS z42 329) (vR 124),dE (kH P z51) (vS z51 362) (vR 152),dE (kH P z58) (vS z58 411) (vR 185),dE (kH P z67) (vS z67 442) (vR 209),dE (kH P z71) (vS z71 478) (vR 235),dE (kH P z74) (vS z74 498) (vR 247),dE (kH P z75) (vS z75 514) (vR 260),dE (kH P z76) (vS z76 530) (vR 272),dE (kH P z78) (vS z78 546) (vR 284),dE (kH P z79) (vS z79 558) (vR 293),dE (kH P z80) (vS z80 564) (vR 298),dE (kH P z81) (vS z81 578) (vR 305),dE (kH P z82) (vS z82 585) (vR 312),dE (kH P z83) (vS z83 592) (vR 319),dE (kH P z84) (vS z84 598) (vR 324),dE (kH P z89) (vS z89 604) (vR 329),dE (kH P z90) (vS z90 617) (vR 336),dE (kH P z91) (vS z91 630) (vR 343),dE (kH P z92) (vS z92 641) (vR 350),dE (kH P z93) (vS z93 645) (vI 8 644),dE (kH P z94) (vS z94 647) (vI 14 646),dE (kH P z95) (vS z95 655) (vR 357),dE (kH P iz) (vS iz 690) (vR 379),dE (kH P z102) (vS z102 694) (vI 14 693),dE (kH P ki) (vS ki 703) (vR 390),dE (kH P kj) (vS kj 712) (vR 397),dE (kH P kl) (vS kl 720) (vR 404),dE (kH P km) (vS km 732) (vR 411)] 53) #[])).set 12 (oF [vI 2 0,vI 0 0,vR 20,vI 4 0,vI 0 0,vR 27,vI 6 0,vI 0 0,vR 34,vI 8 0,vI 0 0,vR 41,vI 10 0,vI 0 0,vR 48,vI 12 0,vI 0 0,vR 53,vI 14 0,vI 0 0,vR 60,vI 16 0,vI 0 0,vR 67,vI 18 0,vI 0 0,vR 72,vI 21 0,vI 0 0,vR 77,vI 23 0,vI 0 0,vR 84,vI 32 0,vI 0 0,vR 89,vI 43 0,vI 0 0,vR 96,vI 46 0,vI 0 0,vR 101,vI 48 0,vI 0 0,vR 108,vI 53 0,vI 0 0,vR 113,vI 57 0,vI 0 0,vR 120,vI 59 0,vI 0 0,vR 134,vI 68 0,vI 0 0,vR 160,vI 83 0,vI 0 0,vR 193,vI 95 0,vI 0 0,vR 217,vI 107 0,vI 0 0,vR 243,vI 109 0,vI 0 0,vR 256,vI 111 0,vI 0 0,vR 268,vI 113 0,vI 0 0,vR 280,vI 116 0,vI 0 0,vR 292,vI 122 0,vI 0 0,vR 297,vI 124 0,vI 0 0,vR 304,vI 138 0,vI 0 0,vR 311,vI 140 0,vI 0 0,vR 318,vI 142 0,vI 0 0,vR 323,vI 144 0,vI 0 0,vR 328,vI 148 0,vI 0 0,vR 335,vI 156 0,vI 0 0,vR 342,vI 165 0,vI 0 0,vR 349,vI 173 0,vI 0 0,vR 356,vI 177 0,vI 0 0,vR 363,vI 193 0,vI 0 0,vR 389,vI 195 0,vI 0 0,vR 396,vI 198 0,vI 0 0,vR 403,vI 201 0,vI 0 0,vR 410]))++[oT [],fun _=>Obj.mk (vT y6) none (.fields #[vU y7,vT y8]) #[],fun P=>Obj.mk (vT y3) none (.dict #[dE (kH P z45) (vS z45 663) (vS z88 642),dE (kH P z46) (vS z46 665) (vS iz 664),dE (kH P z47) (vS z47 667) (vI 177 666),dE (kH P z52) (vS z52 673) (vR 369),dE (kH P z107) (vS z107 680) (vR 376),dE (kH P z48) (vS z48 683) (vR 377)] 6) #[],oT [],oF [vI 179 0,vI 4 0,vR 368,vI 189 0,vI 4 0,vR 375],fun _=>Obj.mk (vT y1) none (.fields #[vS iz 658,vS iz 659,vS z1 660,vI 177 0,vI 0 0,vI 0 0,vI 0 0,vI 0 0,vR 361,vB false,vI 181 0,vR 362,vN,vN,vN,vN,vI 661 0,vI 177 0,vS z1 662]) #[],fun _=>Obj.mk (vT y2) none .plain #[some (vR 363),some (vR 3),some (vR 360),none,some (vS z88 642),none,some (vR 0)],oT [],oF [],oG z52 z108 (M 43 0),fun _=>Obj.mk (vT y1) none (.fields #[vS z52 668,vS z108 669,vS z1 670,vI 179 0,vI 3 0,vI 0 0,vI 0 0,vI 3 0,vR 365,vB true,vI 181 0,vR 366,vN,vN,vN,vR 367,vI 671 0,vI 179 0,vS z1 672]) #[],oH z52 z108 (M 43 0) z88 642 368,oT [],oF [],oT [vS z54 677],oT [],oG z107 z109 (M 43 1),oC z107 674 z109 675 676 189 1 3 370 true 371 372 373 374 678 189 679,oH z107 z109 (M 43 1) z88 642 375,oT [vS z110 681,vS z55 682],fun P=>Obj.mk (vT y3) none (.dict #[dE (kH P z45) (vS z45 663) (vS z88 642),dE (kH P z47) (vS z47 667) (vI 177 666),dE (kH P z52) (vS z52 673) (vR 369),dE (kH P z107) (vS z107 680) (vR 376),dE (kH P z48) (vS z48 683) (vR 377),dE (kH P z49) (vS z49 685) (vR 380),dE (kH P z50) (vS z50 687) (vR 381),dE (kH P z5) (vS z5 688) vN] 4) #[],fun _=>Obj.mk (vT y8) none (.cls (ClassData.mk iz [vT y9] [vR 379,vT y9] 378 iz true [] [] false none false)) #[none,none,some (vS iz 656),some (vS iz 664),some (vU y10),some (vB true)],fun _=>Obj.mk (vT y11) none (.fields #[vS z49 684,vR 379,vU y12,vU y13]) #[],fun _=>Obj.mk (vT y11) none (.fields #[vS z50 686,vR 379,vU y14,vN]) #[],fun _=>Obj.mk (vT y15) none (.fields #[vR 379,vR 379,vR 379]) #[],fun _=>Obj.mk (vT y6) none (.fields #[vU y16,vR 379]) #[],oT [],oF [],oT [vS z29 698,vS z31 699,vS z32 700],oT [],oG ki ki (U 46),oC ki 695 ki 696 697 193 3 3 384 true 385 386 387 388 701 193 702,oH ki ki (U 46) z100 691 389,oT [],oF [],oT [vS z29 707,vS z31 708,vS z32 709],oT [],oG kj kj (U 47),oC kj 704 kj 705 706 195 3 3 391 true 392 393 394 395 710 195 711,oH kj kj (U 47) z100 691 396,oT [],oF [],oT [vS z62 716,vS z111 717],oT [],oG kl kl (U 48),oC kl 713 kl 714 715 198 2 3 398 true 399 400 401 402 718 198 719,oH kl kl (U 48) z100 691 403,oT [],oF [],oT [vS z29 724,vS z31 725,vS z32 726,vS z62 727,vS z34 728,vS z43 729],oT [],oG km km (U 49),oC km 721 km 722 723 201 4 3 405 true 406 407 408 409 730 201 731,oH km km (U 49) z100 691 410]
noncomputable def t11 (P:Params):BT:=bt P 10 l11
noncomputable def l12:List (Params→Obj):=((l11.set 3 (fun P=>Obj.mk (vT y3) none (.dict #[dE (kH P z3) (vS z3 165) (vS fH 733),dE (kH P z5) (vS z5 166) vN,dE (kH P z6) (vS z6 167) vN,dE (kH P z7) (vS z7 168) (vU y4),dE (kH P z8) (vS z8 169) vN,dE (kH P z9) (vS z9 170) (vR 6),dE (kH P z10) (vS z10 171) (vR 4),dE (kH P z11) (vS z11 173) (vS z1 172),dE (kH P z12) (vS z12 174) vN,dE (kH P z13) (vS z13 195) (vR 21),dE (kH P z14) (vS z14 202) (vR 28),dE (kH P z15) (vS z15 210) (vR 35),dE (kH P z16) (vS z16 219) (vR 42),dE (kH P z17) (vS z17 226) (vR 49),dE (kH P z18) (vS z18 232) (vR 54),dE (kH P z19) (vS z19 240) (vR 61),dE (kH P z20) (vS z20 249) (vR 68),dE (kH P z21) (vS z21 255) (vR 73),dE (kH P z22) (vS z22 261) (vR 78),dE (kH P z23) (vS z23 272) (vR 85),dE (kH P z24) (vS z24 278) (vR 90),dE (kH P z25) (vS z25 286) (vR 97),dE (kH P z39) (vS z39 294) (vR 102),dE (kH P z40) (vS z40 303) (vR 109),dE (kH P z41) (vS z41 309) (vR 114),dE (kH P z42) (vS z42 329) (vR 124),dE (kH P z51) (vS z51 362) (vR 152),dE (kH P z58) (vS z58 411) (vR 185),dE (kH P z67) (vS z67 442) (vR 209),dE (kH P z71) (vS z71 478) (vR 235),dE (kH P z74) (vS z74 498) (vR 247),dE (kH P z75) (vS z75 514) (vR 260),dE (kH P z76) (vS z76 530) (vR 272),dE (kH P z78) (vS z78 546) (vR 284),dE (kH P z79) (vS z79 558) (vR 293),dE (kH P z80) (vS z80 564) (vR 298),dE (kH P z81) (vS z81 578) (vR 305),dE (kH P z82) (vS z82 585) (vR 312),dE (kH P z83) (vS z83 592) (vR 319),dE (kH P z84) (vS z84 598) (vR 324),dE (kH P z89) (vS z89 604) (vR 329),dE (kH P z90) (vS z90 617) (vR 336),dE (kH P z91) (vS z91 630) (vR 343),dE (kH P z92) (vS z92 641) (vR 350),dE (kH P z93) (vS z93 645) (vI 8 644),dE (kH P z94) (vS z94 647) (vI 14 646),dE (kH P z95) (vS z95 655) (vR 357),dE (kH P iz) (vS iz 690) (vR 379),dE (kH P z102) (vS z102 694) (vI 14 693),dE (kH P ki) (vS ki 703) (vR 390),dE (kH P kj) (vS kj 712) (vR 397),dE (kH P kl) (vS kl 720) (vR 404),dE (kH P km) (vS km 732) (vR 411),dE (kH P z113) (vS z113 742) (vR 418),dE (kH P z114) (vS z114 752) (vR 425),dE (kH P z115) (vS z115 768) (vR 432),dE (kH P z116) (vS z116 774) (vR 437),dE (kH P z117) (vS z117 784) (vR 444),dE (kH P z118) (vS z118 790) (vR 449),dE (kH P z119) (vS z119 798) (vR 456),dE (kH P z120) (vS z120 806) (vR 463),dE (kH P z121) (vS z121 819) (vR 470),dE (kH P z122) (vS z122 835) (vR 477)] 63) #[])).set 12 (oF [vI 2 0,vI 0 0,vR 20,vI 4 0,vI 0 0,vR 27,vI 6 0,vI 0 0,vR 34,vI 8 0,vI 0 0,vR 41,vI 10 0,vI 0 0,vR 48,vI 12 0,vI 0 0,vR 53,vI 14 0,vI 0 0,vR 60,vI 16 0,vI 0 0,vR 67,vI 18 0,vI 0 0,vR 72,vI 21 0,vI 0 0,vR 77,vI 23 0,vI 0 0,vR 84,vI 32 0,vI 0 0,vR 89,vI 43 0,vI 0 0,vR 96,vI 46 0,vI 0 0,vR 101,vI 48 0,vI 0 0,vR 108,vI 53 0,vI 0 0,vR 113,vI 57 0,vI 0 0,vR 120,vI 59 0,vI 0 0,vR 134,vI 68 0,vI 0 0,vR 160,vI 83 0,vI 0 0,vR 193,vI 95 0,vI 0 0,vR 217,vI 107 0,vI 0 0,vR 243,vI 109 0,vI 0 0,vR 256,vI 111 0,vI 0 0,vR 268,vI 113 0,vI 0 0,vR 280,vI 116 0,vI 0 0,vR 292,vI 122 0,vI 0 0,vR 297,vI 124 0,vI 0 0,vR 304,vI 138 0,vI 0 0,vR 311,vI 140 0,vI 0 0,vR 318,vI 142 0,vI 0 0,vR 323,vI 144 0,vI 0 0,vR 328,vI 148 0,vI 0 0,vR 335,vI 156 0,vI 0 0,vR 342,vI 165 0,vI 0 0,vR 349,vI 173 0,vI 0 0,vR 356,vI 177 0,vI 0 0,vR 363,vI 193 0,vI 0 0,vR 389,vI 195 0,vI 0 0,vR 396,vI 198 0,vI 0 0,vR 403,vI 201 0,vI 0 0,vR 410,vI 210 0,vI 0 0,vR 417,vI 214 0,vI 0 0,vR 424,vI 217 0,vI 0 0,vR 431,vI 239 0,vI 0 0,vR 436,vI 241 0,vI 0 0,vR 443,vI 250 0,vI 0 0,vR 448,vI 265 0,vI 0 0,vR 455,vI 267 0,vI 0 0,vR 462,vI 271 0,vI 0 0,vR 469,vI 280 0,vI 0 0,vR 476]))++[oT [],oF [],oT [vS z123 738,vS z124 739],oT [],oG z113 z113 (U 51),oC z113 735 z113 736 737 210 2 3 412 true 413 414 415 416 740 210 741,oH z113 z113 (U 51) fH 733 417,oT [],oF [],oT [vS z125 746,vS z124 747,vS z126 748,vS z127 749],oT [],oG z114 z114 (U 52),oC z114 743 z114 744 745 214 3 3 419 true 420 421 422 423 750 214 751,oH z114 z114 (U 52) fH 733 424,oT [],oF [],oT [vS z125 756,vS z128 757,vS z129 758,vS z130 759,vS z131 760,vS z132 761,vS z124 762,vS z133 763,vS z134 764,vS z135 765],oT [],oG z115 z115 (U 53),oC z115 753 z115 754 755 217 2 3 426 true 427 428 429 430 766 217 767,oH z115 z115 (U 53) fH 733 431,oT [],oF [],oG z116 z116 (U 54),fun _=>Obj.mk (vT y1) none (.fields #[vS z116 769,vS z116 770,vS z1 771,vI 239 0,vI 2 0,vI 0 0,vI 0 0,vI 3 0,vR 433,vB true,vI 181 0,vR 434,vN,vN,vN,vR 435,vI 772 0,vI 239 0,vS z1 773]) #[],oH z116 z116 (U 54) fH 733 436,oT [],oF [],oT [vS z136 778,vS z129 779,vS z137 780,vS z138 781],oT [],oG z117 z117 (U 55),oC z117 775 z117 776 777 241 2 3 438 true 439 440 441 442 782 241 783,oH z117 z117 (U 55) fH 733 443,oT [],oF [],oG z118 z118 (U 56),fun _=>Obj.mk (vT y1) none (.fields #[vS z118 785,vS z118 786,vS z1 787,vI 250 0,vI 2 0,vI 0 0,vI 0 0,vI 3 0,vR 445,vB true,vI 181 0,vR 446,vN,vN,vN,vR 447,vI 788 0,vI 250 0,vS z1 789]) #[],oH z118 z118 (U 56) fH 733 448,oT [],oF [],oT [vS z139 794,vS z140 795],oT [],oG z119 z119 (U 57),oC z119 791 z119 792 793 265 2 3 450 true 451 452 453 454 796 265 797,oH z119 z119 (U 57) fH 733 455,oT [],oF [],oT [vS z139 802,vS z140 803],oT [],oG z120 z120 (U 58),oC z120 799 z120 800 801 267 2 3 457 true 458 459 460 461 804 267 805,oH z120 z120 (U 58) fH 733 462,oT [],oF [],oT [vS z139 810,vS z133 811,vS z134 812,vS z126 813,vS z141 814,vS z142 815,vS z143 816],oT [],oG z121 z121 (U 59),oC z121 807 z121 808 809 271 5 3 464 true 465 466 467 468 817 271 818,oH z121 z121 (U 59) fH 733 469,oT [],oF [],oT [vS z123 823,vS z139 824,vS z144 825,vS z145 826,vS z125 827,vS z133 828,vS z134 829,vS z126 830,vS z141 831,vS z146 832],oT [],oG z122 z122 (U 60),oC z122 820 z122 821 822 280 1 3 471 true 472 473 474 475 833 280 834,oH z122 z122 (U 60) fH 733 476]
noncomputable def t12 (P:Params):BT:=bt P 10 l12
noncomputable abbrev BB:List Stmt:=behindTheImports Pf
noncomputable abbrev EE:Env:={ scope:=Pf.main.scope,locals:=mainNs,globals:=mainNs,cells:=[],code:=.ref 13,frame:=some 14 }
theorem pc {tb:String→Option Builtin} {p:Program} {w:World} {n₀:Nat} {ann:Option Value} {env:Env} {q:Pos} {n N k m:Nat} {s s':SharedT} {r:Shared} {b:List Stmt} {c:Code} {pos p':Pos}
  (h:segRunT tb p w n₀ ann 1 n s (piecesOf ((b.drop k).take m) env c pos [topFrame q])=some (.next,s',c,p')) (K:topRun tb p w n₀ ann N s'.abs (restOf (b.drop (k+m)) env c p' [topFrame q])=some r) :
  topRun tb p w n₀ ann (n+N) s.abs (restOf (b.drop k) env c pos [topFrame q])=some r:=by
 have h2:=piece_app (rest:=b.drop (k+m)) (segRun_of h) K
 rwa [←List.drop_drop,List.take_append_drop] at h2
noncomputable def Ha (P:Params):Heap:=⟨⟨l0.map (· P)⟩,{}⟩
noncomputable def H1 (P:Params):Heap:=⟨⟨l12.map (· P)⟩,{}⟩
theorem pre (w:World) (os:OsState):topGo treeTable Pf w 11 (some (.ref 6)) 12 ⟨boot_heap w.params,⟨[]⟩,boot_drawn,boot_toks,os⟩ (topStub Pf)=some (⟨Ha w.params,⟨[]⟩,{},187,os⟩,⟨denote treeTable (.body BB EE),.body BB EE,⟨0,0,0,0⟩,[topFrame ⟨0,0,0,0⟩]⟩):=by
 rw [Fast.te15667345088766844465,Fast.te11892475500146522536,Fast.te14364793385576792824];kernel_rfl
theorem blk (w:World) (os:OsState):segRun treeTable Pf w 11 (some (.ref 6)) 1 1 ⟨Ha w.params,⟨[]⟩,{},187,os⟩ (blockOf BB EE (.body BB EE) ⟨0,0,0,0⟩ [topFrame ⟨0,0,0,0⟩])=some (.next,SharedT.abs ⟨t0 w.params,15,{},⟨[]⟩,{},187,os⟩,.body BB EE,⟨0,0,0,0⟩):=by
 rw [Fast.te14374325043358763698,Fast.te14364793385576792824];kernel_rfl
theorem q0 (w:World) (os:OsState):segRunT treeTable Pf w 11 (some (.ref 6)) 1 395 ⟨t0 w.params,15,{},⟨[]⟩,{},187,os⟩ (piecesOf ((BB.drop 0).take 15) EE (.body BB EE) ⟨0,0,0,0⟩ [topFrame ⟨0,0,0,0⟩])=some (.next,⟨t1 w.params,98,{},⟨[]⟩,{},289,os⟩,.body BB EE,⟨45,0,45,8⟩):=by
 rw [Fast.te10110043849684766642,Fast.te14364793385576792824];kernel_rfl
theorem q1 (w:World) (os:OsState):segRunT treeTable Pf w 11 (some (.ref 6)) 1 274 ⟨t1 w.params,98,{},⟨[]⟩,{},289,os⟩ (piecesOf ((BB.drop 15).take 4) EE (.body BB EE) ⟨45,0,45,8⟩ [topFrame ⟨0,0,0,0⟩])=some (.next,⟨t2 w.params,129,{},⟨[]⟩,{},330,os⟩,.body BB EE,⟨57,0,58,8⟩):=by
 rw [Fast.te10110043849684766642,Fast.te14364793385576792824];kernel_rfl
theorem q2 (w:World) (os:OsState):segRunT treeTable Pf w 11 (some (.ref 6)) 1 278 ⟨t2 w.params,129,{},⟨[]⟩,{},330,os⟩ (piecesOf ((BB.drop 19).take 1) EE (.body BB EE) ⟨57,0,58,8⟩ [topFrame ⟨0,0,0,0⟩])=some (.next,⟨t3 w.params,155,{},⟨[]⟩,{},363,os⟩,.body BB EE,⟨59,0,67,57⟩):=by
 rw [Fast.te10110043849684766642,Fast.te14364793385576792824];kernel_rfl
theorem q3 (w:World) (os:OsState):segRunT treeTable Pf w 11 (some (.ref 6)) 1 318 ⟨t3 w.params,155,{},⟨[]⟩,{},363,os⟩ (piecesOf ((BB.drop 20).take 1) EE (.body BB EE) ⟨59,0,67,57⟩ [topFrame ⟨0,0,0,0⟩])=some (.next,⟨t4 w.params,188,{},⟨[]⟩,{},412,os⟩,.body BB EE,⟨68,0,82,94⟩):=by
 rw [Fast.te10110043849684766642,Fast.te14364793385576792824];kernel_rfl
theorem q4 (w:World) (os:OsState):segRunT treeTable Pf w 11 (some (.ref 6)) 1 274 ⟨t4 w.params,188,{},⟨[]⟩,{},412,os⟩ (piecesOf ((BB.drop 21).take 1) EE (.body BB EE) ⟨68,0,82,94⟩ [topFrame ⟨0,0,0,0⟩])=some (.next,⟨t5 w.params,212,{},⟨[]⟩,{},443,os⟩,.body BB EE,⟨83,0,94,64⟩):=by
 rw [Fast.te10110043849684766642,Fast.te14364793385576792824];kernel_rfl
theorem q5 (w:World) (os:OsState):segRunT treeTable Pf w 11 (some (.ref 6)) 1 290 ⟨t5 w.params,212,{},⟨[]⟩,{},443,os⟩ (piecesOf ((BB.drop 22).take 2) EE (.body BB EE) ⟨83,0,94,64⟩ [topFrame ⟨0,0,0,0⟩])=some (.next,⟨t6 w.params,238,{},⟨[]⟩,{},481,os⟩,.body BB EE,⟨106,0,106,8⟩):=by
 rw [Fast.te10110043849684766642,Fast.te14364793385576792824];kernel_rfl
theorem q6 (w:World) (os:OsState):segRunT treeTable Pf w 11 (some (.ref 6)) 1 400 ⟨t6 w.params,238,{},⟨[]⟩,{},481,os⟩ (piecesOf ((BB.drop 24).take 2) EE (.body BB EE) ⟨106,0,106,8⟩ [topFrame ⟨0,0,0,0⟩])=some (.next,⟨t7 w.params,263,{},⟨[]⟩,{},515,os⟩,.body BB EE,⟨109,0,110,8⟩):=by
 rw [Fast.te10110043849684766642,Fast.te14364793385576792824];kernel_rfl
theorem q7 (w:World) (os:OsState):segRunT treeTable Pf w 11 (some (.ref 6)) 1 214 ⟨t7 w.params,263,{},⟨[]⟩,{},515,os⟩ (piecesOf ((BB.drop 26).take 1) EE (.body BB EE) ⟨109,0,110,8⟩ [topFrame ⟨0,0,0,0⟩])=some (.next,⟨t8 w.params,275,{},⟨[]⟩,{},531,os⟩,.body BB EE,⟨111,0,112,8⟩):=by
 rw [Fast.te10110043849684766642,Fast.te14364793385576792824];kernel_rfl
theorem q8 (w:World) (os:OsState):segRunT treeTable Pf w 11 (some (.ref 6)) 1 401 ⟨t8 w.params,275,{},⟨[]⟩,{},531,os⟩ (piecesOf ((BB.drop 27).take 8) EE (.body BB EE) ⟨111,0,112,8⟩ [topFrame ⟨0,0,0,0⟩])=some (.next,⟨t9 w.params,325,{},⟨[]⟩,{},599,os⟩,.body BB EE,⟨142,0,143,94⟩):=by
 rw [Fast.te10110043849684766642,Fast.te14364793385576792824];kernel_rfl
theorem q9 (w:World) (os:OsState):segRunT treeTable Pf w 11 (some (.ref 6)) 1 187 ⟨t9 w.params,325,{},⟨[]⟩,{},599,os⟩ (piecesOf ((BB.drop 35).take 8) EE (.body BB EE) ⟨142,0,143,94⟩ [topFrame ⟨0,0,0,0⟩])=some (.next,⟨t10 w.params,358,{},⟨[]⟩,{},656,os⟩,.body BB EE,⟨173,0,176,94⟩):=by
 rw [Fast.te10110043849684766642,Fast.te14364793385576792824];kernel_rfl
theorem q10 (w:World) (os:OsState):segRunT treeTable Pf w 11 (some (.ref 6)) 1 395 ⟨t10 w.params,358,{},⟨[]⟩,{},656,os⟩ (piecesOf ((BB.drop 43).take 7) EE (.body BB EE) ⟨173,0,176,94⟩ [topFrame ⟨0,0,0,0⟩])=some (.next,⟨t11 w.params,412,{},⟨[]⟩,{},733,os⟩,.body BB EE,⟨201,0,208,51⟩):=by
 rw [Fast.te10110043849684766642,Fast.te14364793385576792824];kernel_rfl
theorem q11 (w:World) (os:OsState):segRunT treeTable Pf w 11 (some (.ref 6)) 1 327 ⟨t11 w.params,412,{},⟨[]⟩,{},733,os⟩ (piecesOf ((BB.drop 50).take 11) EE (.body BB EE) ⟨201,0,208,51⟩ [topFrame ⟨0,0,0,0⟩])=some (.next,⟨t12 w.params,478,{},⟨[]⟩,{},836,os⟩,.body BB EE,⟨280,0,312,47⟩):=by
 rw [Fast.te10110043849684766642,Fast.te14364793385576792824];kernel_rfl
theorem fin (w:World) (os:OsState):topRun treeTable Pf w 11 (some (.ref 6)) 2 (SharedT.abs ⟨t12 w.params,478,{},⟨[]⟩,{},836,os⟩) ⟨doneF .next,.body BB EE,⟨280,0,312,47⟩,[topFrame ⟨0,0,0,0⟩]⟩=some ⟨H1 w.params,⟨[]⟩,{},836,os⟩:=by
 rw [Fast.te14082659384304107361,Fast.te14364793385576792824];kernel_rfl
theorem nil0:BB.drop 61=[]:=by kernel_rfl
theorem fin1 (w:World) (os:OsState):topRun treeTable Pf w 11 (some (.ref 6)) 2 (SharedT.abs ⟨t12 w.params,478,{},⟨[]⟩,{},836,os⟩) (restOf (BB.drop 61) EE (.body BB EE) ⟨280,0,312,47⟩ [topFrame ⟨0,0,0,0⟩])=some ⟨H1 w.params,⟨[]⟩,{},836,os⟩:=by
 rw [nil0];exact piece_nil (fin w os)
theorem run (w:World) (os:OsState):topRun treeTable Pf w 11 (some (.ref 6)) (12+(1+(395+(274+(278+(318+(274+(290+(400+(214+(401+(187+(395+(327+(2))))))))))))))) ⟨boot_heap w.params,⟨[]⟩,boot_drawn,boot_toks,os⟩ (topStub Pf)=some ⟨H1 w.params,⟨[]⟩,{},836,os⟩:=
 go_top (pre w os) (piece_block (blk w os) (pc (q0 w os) (pc (q1 w os) (pc (q2 w os) (pc (q3 w os) (pc (q4 w os) (pc (q5 w os) (pc (q6 w os) (pc (q7 w os) (pc (q8 w os) (pc (q9 w os) (pc (q10 w os) (pc (q11 w os) (fin1 w os))))))))))))))
def kp:List Nat:=[1,2,3,4,5,6,7,8,9,10,11,12,13,15,16,17,18,19,20,21,22,24,25,26,27,29,30,31,32,33,34,35,36,37,38,40,41,42,43,45,46,47,48,49,51,52,53,54,55,56,57,58,59,60]
def qv (p:Program):Program:={ p with main:={ p.main with body:=kp.filterMap fun i=>p.main.body[i]? } }
noncomputable abbrev QF:Program:=qv Pf
noncomputable def g (a:Nat) (P:Params):Obj:=(l12.getD a boot_o_0) P
noncomputable def KK:Params→Frag:=fun P=>(nat_lit 2,g 2 P)::(nat_lit 3,g 3 P)::(nat_lit 15,g 15 P)::(nat_lit 17,g 17 P)::(nat_lit 18,g 18 P)::(nat_lit 20,g 20 P)::(nat_lit 21,oH z13 z13 (U 1) z27 187 20 P)::(nat_lit 22,g 22 P)::(nat_lit 24,g 24 P)::(nat_lit 25,g 25 P)::(nat_lit 27,g 27 P)::(nat_lit 28,oH z14 z14 (U 2) z27 187 27 P)::(nat_lit 29,g 29 P)::(nat_lit 31,g 31 P)::(nat_lit 32,g 32 P)::(nat_lit 34,g 34 P)::(nat_lit 35,oH z15 z15 (U 3) z27 187 34 P)::(nat_lit 36,g 36 P)::(nat_lit 38,g 38 P)::(nat_lit 39,g 39 P)::(nat_lit 41,g 41 P)::(nat_lit 42,oH z16 z16 (U 4) z27 187 41 P)::(nat_lit 43,g 43 P)::(nat_lit 45,g 45 P)::(nat_lit 46,g 46 P)::(nat_lit 48,g 48 P)::(nat_lit 49,oH z17 z17 (U 5) z27 187 48 P)::(nat_lit 50,g 50 P)::(nat_lit 53,g 53 P)::(nat_lit 54,oH z18 z18 (U 6) z27 187 53 P)::(nat_lit 55,g 55 P)::(nat_lit 57,g 57 P)::(nat_lit 58,g 58 P)::(nat_lit 60,g 60 P)::(nat_lit 61,oH z19 z19 (U 7) z27 187 60 P)::(nat_lit 62,g 62 P)::(nat_lit 64,g 64 P)::(nat_lit 65,g 65 P)::(nat_lit 67,g 67 P)::(nat_lit 68,oH z20 z20 (U 8) z27 187 67 P)::(nat_lit 69,g 69 P)::(nat_lit 72,g 72 P)::(nat_lit 73,oH z21 z21 (U 9) z27 187 72 P)::(nat_lit 74,g 74 P)::(nat_lit 77,g 77 P)::(nat_lit 78,oH z22 z22 (U 10) z27 187 77 P)::(nat_lit 79,g 79 P)::(nat_lit 81,g 81 P)::(nat_lit 82,g 82 P)::(nat_lit 84,g 84 P)::(nat_lit 85,oH z23 z23 (U 11) z27 187 84 P)::(nat_lit 86,g 86 P)::(nat_lit 89,g 89 P)::(nat_lit 90,oH z24 z24 (U 12) z27 187 89 P)::(nat_lit 91,g 91 P)::(nat_lit 93,g 93 P)::(nat_lit 94,g 94 P)::(nat_lit 96,g 96 P)::(nat_lit 97,oH z25 z25 (U 13) z27 187 96 P)::(nat_lit 98,g 98 P)::(nat_lit 101,g 101 P)::(nat_lit 102,oH z39 z39 (U 15) z4 287 101 P)::(nat_lit 103,g 103 P)::(nat_lit 105,g 105 P)::(nat_lit 106,g 106 P)::(nat_lit 108,g 108 P)::(nat_lit 109,oH z40 z40 (U 16) z4 287 108 P)::(nat_lit 110,g 110 P)::(nat_lit 113,g 113 P)::(nat_lit 114,oH z41 z41 (U 17) z4 287 113 P)::(nat_lit 122,g 122 P)::(nat_lit 123,g 123 P)::(nat_lit 124,Obj.mk (vT y8) none (.cls (ClassData.mk z42 [vT y9] [vR 124,vT y9] 123 z42 true [] [vR 152,vR 185,vR 209,vR 235] false none false)) #[none,none,some (vS z42 310),some (vS z42 318),some (vU y10),some (vB true)])::(nat_lit 125,g 125 P)::(nat_lit 126,g 126 P)::(nat_lit 129,g 129 P)::(nat_lit 136,g 136 P)::(nat_lit 138,g 138 P)::(nat_lit 139,g 139 P)::(nat_lit 141,g 141 P)::(nat_lit 142,oH z52 z56 (M 19 0) z4 287 141 P)::(nat_lit 143,g 143 P)::(nat_lit 145,g 145 P)::(nat_lit 146,g 146 P)::(nat_lit 148,g 148 P)::(nat_lit 149,oH z53 z57 (M 19 1) z4 287 148 P)::(nat_lit 150,g 150 P)::(nat_lit 151,g 151 P)::(nat_lit 152,Obj.mk (vT y8) none (.cls (ClassData.mk z51 [vR 124] [vR 152,vR 124,vT y9] 151 z51 true [] [] false none false)) #[some (vR 129),none,some (vS z51 330),some (vS z51 338),some (vU y10),some (vB true)])::(nat_lit 155,g 155 P)::(nat_lit 162,g 162 P)::(nat_lit 164,g 164 P)::(nat_lit 165,g 165 P)::(nat_lit 167,g 167 P)::(nat_lit 168,oH z52 z61 (M 20 0) z4 287 167 P)::(nat_lit 169,g 169 P)::(nat_lit 171,g 171 P)::(nat_lit 172,g 172 P)::(nat_lit 174,g 174 P)::(nat_lit 175,oH z53 z65 (M 20 1) z4 287 174 P)::(nat_lit 176,g 176 P)::(nat_lit 178,g 178 P)::(nat_lit 179,g 179 P)::(nat_lit 181,g 181 P)::(nat_lit 182,oH z59 z66 (M 20 2) z4 287 181 P)::(nat_lit 183,g 183 P)::(nat_lit 184,g 184 P)::(nat_lit 185,Obj.mk (vT y8) none (.cls (ClassData.mk z58 [vR 124] [vR 185,vR 124,vT y9] 184 z58 true [] [] false none false)) #[some (vR 155),none,some (vS z58 363),some (vS z58 371),some (vU y10),some (vB true)])::(nat_lit 188,g 188 P)::(nat_lit 195,g 195 P)::(nat_lit 197,g 197 P)::(nat_lit 198,g 198 P)::(nat_lit 200,g 200 P)::(nat_lit 201,oH z52 z68 (M 21 0) z4 287 200 P)::(nat_lit 202,g 202 P)::(nat_lit 205,g 205 P)::(nat_lit 206,oH z53 z69 (M 21 1) z4 287 205 P)::(nat_lit 207,g 207 P)::(nat_lit 208,g 208 P)::(nat_lit 209,Obj.mk (vT y8) none (.cls (ClassData.mk z67 [vR 124] [vR 209,vR 124,vT y9] 208 z67 true [] [] false none false)) #[some (vR 188),none,some (vS z67 412),some (vS z67 420),some (vU y10),some (vB true)])::(nat_lit 212,g 212 P)::(nat_lit 219,g 219 P)::(nat_lit 221,g 221 P)::(nat_lit 222,g 222 P)::(nat_lit 224,g 224 P)::(nat_lit 225,oH z52 z72 (M 22 0) z4 287 224 P)::(nat_lit 226,g 226 P)::(nat_lit 228,g 228 P)::(nat_lit 229,g 229 P)::(nat_lit 231,g 231 P)::(nat_lit 232,oH z53 z73 (M 22 1) z4 287 231 P)::(nat_lit 233,g 233 P)::(nat_lit 234,g 234 P)::(nat_lit 235,Obj.mk (vT y8) none (.cls (ClassData.mk z71 [vR 124] [vR 235,vR 124,vT y9] 234 z71 true [] [] false none false)) #[some (vR 212),none,some (vS z71 443),some (vS z71 451),some (vU y10),some (vB true)])::(nat_lit 238,g 238 P)::(nat_lit 245,g 245 P)::(nat_lit 246,g 246 P)::(nat_lit 247,Obj.mk (vT y8) none (.cls (ClassData.mk z74 [vT y17] [vR 247,vT y17,vT y18,vT y19,vT y9] 246 z74 true [] [vR 260,vR 272,vR 284] false none false)) #[some (vR 238),none,some (vS z74 481),some (vS z74 489),some (vU y20),some (vB true)])::(nat_lit 248,g 248 P)::(nat_lit 251,g 251 P)::(nat_lit 258,g 258 P)::(nat_lit 259,g 259 P)::(nat_lit 260,Obj.mk (vT y8) none (.cls (ClassData.mk z75 [vR 247] [vR 260,vR 247,vT y17,vT y18,vT y19,vT y9] 259 z75 true [] [] false none false)) #[some (vR 251),none,some (vS z75 499),some (vS z75 507),some (vU y20),some (vB true)])::(nat_lit 263,g 263 P)::(nat_lit 270,g 270 P)::(nat_lit 271,g 271 P)::(nat_lit 272,Obj.mk (vT y8) none (.cls (ClassData.mk z76 [vR 247] [vR 272,vR 247,vT y17,vT y18,vT y19,vT y9] 271 z76 true [] [] false none false)) #[some (vR 263),none,some (vS z76 515),some (vS z76 523),some (vU y20),some (vB true)])::(nat_lit 275,g 275 P)::(nat_lit 282,g 282 P)::(nat_lit 283,g 283 P)::(nat_lit 284,Obj.mk (vT y8) none (.cls (ClassData.mk z78 [vR 247] [vR 284,vR 247,vT y17,vT y18,vT y19,vT y9] 283 z78 true [] [] false none false)) #[some (vR 275),none,some (vS z78 531),some (vS z78 539),some (vU y20),some (vB true)])::(nat_lit 287,g 287 P)::(nat_lit 289,g 289 P)::(nat_lit 290,g 290 P)::(nat_lit 292,g 292 P)::(nat_lit 293,oH z79 z79 (U 29) z77 547 292 P)::(nat_lit 294,g 294 P)::(nat_lit 297,g 297 P)::(nat_lit 298,oH z80 z80 (U 30) z77 547 297 P)::(nat_lit 299,g 299 P)::(nat_lit 301,g 301 P)::(nat_lit 302,g 302 P)::(nat_lit 304,g 304 P)::(nat_lit 305,oH z81 z81 (U 31) z77 547 304 P)::(nat_lit 306,g 306 P)::(nat_lit 308,g 308 P)::(nat_lit 309,g 309 P)::(nat_lit 311,g 311 P)::(nat_lit 312,oH z82 z82 (U 32) z77 547 311 P)::(nat_lit 313,g 313 P)::(nat_lit 315,g 315 P)::(nat_lit 316,g 316 P)::(nat_lit 318,g 318 P)::(nat_lit 319,oH z83 z83 (U 33) z77 547 318 P)::(nat_lit 320,g 320 P)::(nat_lit 323,g 323 P)::(nat_lit 324,oH z84 z84 (U 34) z77 547 323 P)::(nat_lit 325,g 325 P)::(nat_lit 328,g 328 P)::(nat_lit 329,oH z89 z89 (U 35) z77 547 328 P)::(nat_lit 330,g 330 P)::(nat_lit 332,g 332 P)::(nat_lit 333,g 333 P)::(nat_lit 335,g 335 P)::(nat_lit 336,oH z90 z90 (U 36) z77 547 335 P)::(nat_lit 337,g 337 P)::(nat_lit 339,g 339 P)::(nat_lit 340,g 340 P)::(nat_lit 342,g 342 P)::(nat_lit 343,oH z91 z91 (U 37) z77 547 342 P)::(nat_lit 344,g 344 P)::(nat_lit 346,g 346 P)::(nat_lit 347,g 347 P)::(nat_lit 349,g 349 P)::(nat_lit 350,oH z92 z92 (U 38) z77 547 349 P)::(nat_lit 351,g 351 P)::(nat_lit 353,g 353 P)::(nat_lit 354,g 354 P)::(nat_lit 356,g 356 P)::(nat_lit 357,oH z95 z95 (U 42) z88 642 356 P)::(nat_lit 365,g 365 P)::(nat_lit 368,g 368 P)::(nat_lit 369,oH z52 z108 (M 43 0) z88 642 368 P)::(nat_lit 370,g 370 P)::(nat_lit 372,g 372 P)::(nat_lit 373,g 373 P)::(nat_lit 375,g 375 P)::(nat_lit 376,oH z107 z109 (M 43 1) z88 642 375 P)::(nat_lit 377,g 377 P)::(nat_lit 378,g 378 P)::(nat_lit 379,Obj.mk (vT y8) none (.cls (ClassData.mk iz [vT y9] [vR 379,vT y9] 378 iz true [] [] false none false)) #[none,none,some (vS iz 656),some (vS iz 664),some (vU y10),some (vB true)])::(nat_lit 380,g 380 P)::(nat_lit 381,g 381 P)::(nat_lit 384,g 384 P)::(nat_lit 386,g 386 P)::(nat_lit 387,g 387 P)::(nat_lit 389,g 389 P)::(nat_lit 390,oH ki ki (U 46) z100 691 389 P)::(nat_lit 391,g 391 P)::(nat_lit 393,g 393 P)::(nat_lit 394,g 394 P)::(nat_lit 396,g 396 P)::(nat_lit 397,oH kj kj (U 47) z100 691 396 P)::(nat_lit 398,g 398 P)::(nat_lit 400,g 400 P)::(nat_lit 401,g 401 P)::(nat_lit 403,g 403 P)::(nat_lit 404,oH kl kl (U 48) z100 691 403 P)::(nat_lit 405,g 405 P)::(nat_lit 407,g 407 P)::(nat_lit 408,g 408 P)::(nat_lit 410,g 410 P)::(nat_lit 411,oH km km (U 49) z100 691 410 P)::(nat_lit 412,g 412 P)::(nat_lit 414,g 414 P)::(nat_lit 415,g 415 P)::(nat_lit 417,g 417 P)::(nat_lit 418,oH z113 z113 (U 51) fH 733 417 P)::(nat_lit 419,g 419 P)::(nat_lit 421,g 421 P)::(nat_lit 422,g 422 P)::(nat_lit 424,g 424 P)::(nat_lit 425,oH z114 z114 (U 52) fH 733 424 P)::(nat_lit 426,g 426 P)::(nat_lit 428,g 428 P)::(nat_lit 429,g 429 P)::(nat_lit 431,g 431 P)::(nat_lit 432,oH z115 z115 (U 53) fH 733 431 P)::(nat_lit 433,g 433 P)::(nat_lit 436,g 436 P)::(nat_lit 437,oH z116 z116 (U 54) fH 733 436 P)::(nat_lit 438,g 438 P)::(nat_lit 440,g 440 P)::(nat_lit 441,g 441 P)::(nat_lit 443,g 443 P)::(nat_lit 444,oH z117 z117 (U 55) fH 733 443 P)::(nat_lit 445,g 445 P)::(nat_lit 448,g 448 P)::(nat_lit 449,oH z118 z118 (U 56) fH 733 448 P)::(nat_lit 450,g 450 P)::(nat_lit 452,g 452 P)::(nat_lit 453,g 453 P)::(nat_lit 455,g 455 P)::(nat_lit 456,oH z119 z119 (U 57) fH 733 455 P)::(nat_lit 464,g 464 P)::(nat_lit 466,g 466 P)::(nat_lit 467,g 467 P)::(nat_lit 469,g 469 P)::(nat_lit 470,oH z121 z121 (U 59) fH 733 469 P)::(nat_lit 471,g 471 P)::(nat_lit 473,g 473 P)::(nat_lit 474,g 474 P)::(nat_lit 476,g 476 P)::(nat_lit 477,oH z122 z122 (U 60) fH 733 476 P)::[]
def ads:List Addr:=[nat_lit 2,nat_lit 3,nat_lit 15,nat_lit 17,nat_lit 18,nat_lit 20,nat_lit 21,nat_lit 22,nat_lit 24,nat_lit 25,nat_lit 27,nat_lit 28,nat_lit 29,nat_lit 31,nat_lit 32,nat_lit 34,nat_lit 35,nat_lit 36,nat_lit 38,nat_lit 39,nat_lit 41,nat_lit 42,nat_lit 43,nat_lit 45,nat_lit 46,nat_lit 48,nat_lit 49,nat_lit 50,nat_lit 53,nat_lit 54,nat_lit 55,nat_lit 57,nat_lit 58,nat_lit 60,nat_lit 61,nat_lit 62,nat_lit 64,nat_lit 65,nat_lit 67,nat_lit 68,nat_lit 69,nat_lit 72,nat_lit 73,nat_lit 74,nat_lit 77,nat_lit 78,nat_lit 79,nat_lit 81,nat_lit 82,nat_lit 84,nat_lit 85,nat_lit 86,nat_lit 89,nat_lit 90,nat_lit 91,nat_lit 93,nat_lit 94,nat_lit 96,nat_lit 97,nat_lit 98,nat_lit 101,nat_lit 102,nat_lit 103,nat_lit 105,nat_lit 106,nat_lit 108,nat_lit 109,nat_lit 110,nat_lit 113,nat_lit 114,nat_lit 122,nat_lit 123,nat_lit 124,nat_lit 125,nat_lit 126,nat_lit 129,nat_lit 136,nat_lit 138,nat_lit 139,nat_lit 141,nat_lit 142,nat_lit 143,nat_lit 145,nat_lit 146,nat_lit 148,nat_lit 149,nat_lit 150,nat_lit 151,nat_lit 152,nat_lit 155,nat_lit 162,nat_lit 164,nat_lit 165,nat_lit 167,nat_lit 168,nat_lit 169,nat_lit 171,nat_lit 172,nat_lit 174,nat_lit 175,nat_lit 176,nat_lit 178,nat_lit 179,nat_lit 181,nat_lit 182,nat_lit 183,nat_lit 184,nat_lit 185,nat_lit 188,nat_lit 195,nat_lit 197,nat_lit 198,nat_lit 200,nat_lit 201,nat_lit 202,nat_lit 205,nat_lit 206,nat_lit 207,nat_lit 208,nat_lit 209,nat_lit 212,nat_lit 219,nat_lit 221,nat_lit 222,nat_lit 224,nat_lit 225,nat_lit 226,nat_lit 228,nat_lit 229,nat_lit 231,nat_lit 232,nat_lit 233,nat_lit 234,nat_lit 235,nat_lit 238,nat_lit 245,nat_lit 246,nat_lit 247,nat_lit 248,nat_lit 251,nat_lit 258,nat_lit 259,nat_lit 260,nat_lit 263,nat_lit 270,nat_lit 271,nat_lit 272,nat_lit 275,nat_lit 282,nat_lit 283,nat_lit 284,nat_lit 287,nat_lit 289,nat_lit 290,nat_lit 292,nat_lit 293,nat_lit 294,nat_lit 297,nat_lit 298,nat_lit 299,nat_lit 301,nat_lit 302,nat_lit 304,nat_lit 305,nat_lit 306,nat_lit 308,nat_lit 309,nat_lit 311,nat_lit 312,nat_lit 313,nat_lit 315,nat_lit 316,nat_lit 318,nat_lit 319,nat_lit 320,nat_lit 323,nat_lit 324,nat_lit 325,nat_lit 328,nat_lit 329,nat_lit 330,nat_lit 332,nat_lit 333,nat_lit 335,nat_lit 336,nat_lit 337,nat_lit 339,nat_lit 340,nat_lit 342,nat_lit 343,nat_lit 344,nat_lit 346,nat_lit 347,nat_lit 349,nat_lit 350,nat_lit 351,nat_lit 353,nat_lit 354,nat_lit 356,nat_lit 357,nat_lit 365,nat_lit 368,nat_lit 369,nat_lit 370,nat_lit 372,nat_lit 373,nat_lit 375,nat_lit 376,nat_lit 377,nat_lit 378,nat_lit 379,nat_lit 380,nat_lit 381,nat_lit 384,nat_lit 386,nat_lit 387,nat_lit 389,nat_lit 390,nat_lit 391,nat_lit 393,nat_lit 394,nat_lit 396,nat_lit 397,nat_lit 398,nat_lit 400,nat_lit 401,nat_lit 403,nat_lit 404,nat_lit 405,nat_lit 407,nat_lit 408,nat_lit 410,nat_lit 411,nat_lit 412,nat_lit 414,nat_lit 415,nat_lit 417,nat_lit 418,nat_lit 419,nat_lit 421,nat_lit 422,nat_lit 424,nat_lit 425,nat_lit 426,nat_lit 428,nat_lit 429,nat_lit 431,nat_lit 432,nat_lit 433,nat_lit 436,nat_lit 437,nat_lit 438,nat_lit 440,nat_lit 441,nat_lit 443,nat_lit 444,nat_lit 445,nat_lit 448,nat_lit 449,nat_lit 450,nat_lit 452,nat_lit 453,nat_lit 455,nat_lit 456,nat_lit 464,nat_lit 466,nat_lit 467,nat_lit 469,nat_lit 470,nat_lit 471,nat_lit 473,nat_lit 474,nat_lit 476,nat_lit 477]
theorem adsE:∀ P,ads=(KK P).map (·.1):=fun P=>by kernel_rfl
noncomputable abbrev Hk:Hook:=kHook KK ads adsE
theorem k1 (w:World) (os:OsState):(staticsOk (importedModules Pf.main.body) (boot_heap w.params) (H1 w.params)&&namesBound Pf (H1 w.params)&&gensDone ⟨H1 w.params,⟨[]⟩,{},836,os⟩&&laidKept (boot_heap w.params) (H1 w.params))=true:=by
 rw [Fast.te5923862056798008813];kernel_rfl
theorem k2 (w:World) (os:OsState):openSeen QF [] (importedModules Pf.main.body) (fun s=>xlAt QF [] s&&recOk (RowW.records PySem.Challenge.rw_earworks_k06_whole_ties_apart.row.toRowW) s) true ⟨H1 w.params,⟨[]⟩,{},836,os⟩=openGood QF []:=by
 unfold openSeen openGood
 refine looks_pair ?_ (looks_pair ?_ (looks_pair ?_ (looks_pair ?_ (looks_pair ?_ (looks_pair ?_ (looks_pair ?_ (looks_pair ?_ ?_)))))))
 ·
  rw [Fast.te5160383126252970620,Fast.te3399658132070893891,Fast.te5991557255702980513,PySem.W.R.mapR_eq];kernel_rfl
 ·
  kernel_rfl
 ·
  rw [Fast.te10880121769531294198,Fast.te821141287760084731,Fast.te3399658132070893891,Fast.te7409074990110511671,Fast.te13664370479719496447,PySem.W.R.mapR_eq,Fast.te14722251495701143533,Fast.te5923862056798008813,Fast.te10994771534591457954];kernel_rfl
 ·
  rw [Fast.te479339242167458305];kernel_rfl
 ·
  rw [Fast.te16090120013241838585,Fast.te3247288618530077131];kernel_rfl
 ·
  rw [Fast.te2386780881361962483,Fast.te821141287760084731];kernel_rfl
 ·
  rw [Fast.te11698064438423848299];kernel_rfl
 ·
  rw [Fast.te7317090234206586261];kernel_rfl
 ·
  rw [Fast.te7369524293546568484];kernel_rfl
theorem k3 (w:World) (os:OsState):Hk.obs ⟨H1 w.params,⟨[]⟩,{},836,os⟩=Hk.val w:=by kernel_rfl
theorem sz (w:World):((boot_heap w.params).isNs mainGlobals&&(⟨[]⟩ : Array GenState).size==0,(boot_heap w.params).objs.size,(boot_heap w.params).nsMap mainGlobals "__annotations__")=(true,11,some (.ref 6)):=by
 rw [Fast.te8920871248978507458,show ("__annotations__" : Str)=⟨⟨[95,95,97,110,110,111,116,97,116,105,111,110,115,95,95]⟩⟩ from Fast.ofString_ofList ['_','_','a','n','n','o','t','a','t','i','o','n','s','_','_']];kernel_rfl
theorem leftF:LeftO Pf QF [] (fun s=>xlAt QF [] s&&recOk (RowW.records PySem.Challenge.rw_earworks_k06_whole_ties_apart.row.toRowW) s) (Hook.obs Hk) (Hook.val Hk) 7608:=
 LeftO.of_pieces (boot_open (by kernel_rfl) (by decide) (fun s=>by kernel_rfl)) sz run (by decide) fun w=>funext fun os=>looks_pair (k1 w os) (looks_pair (k2 w os) (k3 w os))
theorem ePf:PySem.Challenge.rw_earworks_k06_whole_ties_apart.row.prog=Pf:=by
 show (PySem.Challenge.rw_earworks_k06_whole_ties_apart.row).toRowW.1=_
 rw [Fast.te2368527892694137696,Fast.te12593238740054877993]
theorem te (i:Nat):Pg.top i=U i:=by
 show (PySem.Challenge.rw_earworks_k06_whole_ties_apart.row.prog).main.body.getD i _=_
 rw [ePf];rfl
theorem te2 (i j:Nat):inClass (Pg.top i) j=M i j:=by
 unfold M;rw [te i]
end Hx
end
set_option Elab.async false
set_option linter.all false
set_option maxRecDepth 100000
set_option maxHeartbeats 0
theorem Ew.na_mk {K:PySem.W.Frag} {C:PySem.Addr} {f:PySem.Str} (h:PySem.W.findIn K (.ref C) f=some none):L2.NoAttr K C f:=h
theorem Ew.cn_mk {K:PySem.W.Frag} {mg:PySem.Str→Option PySem.Value} {h:PySem.Heap} (KX:K.In h) (G:h.Ns PySem.mainGlobals mg) {x:PySem.Str} {z:Int} {t:PySem.Tok} (e:PySem.W.nsIn K PySem.mainGlobals x=some (some (.int z t))):∃ t,mg x=some (.int z t):=⟨t,PySem.W.mg_of KX G e⟩
open PySem PySem.W PyProof.Rows
theorem PySem.Challenge.cw_earworks_k06_whole_ties_apart_holds : PySem.Challenge.rw_earworks_k06_whole_ties_apart.Holds := by
 w_on;o_law
 refine holds_open (q:=(Hx.qv PySem.Challenge.rw_earworks_k06_whole_ties_apart.row.prog)) (loose:=[]) (Xt:=(fun s=>xlAt (Hx.qv PySem.Challenge.rw_earworks_k06_whole_ties_apart.row.prog) [] s&&recOk (RowW.records PySem.Challenge.rw_earworks_k06_whole_ties_apart.row.toRowW) s)) (XP:=XL (Hx.qv PySem.Challenge.rw_earworks_k06_whole_ties_apart.row.prog) []) (Yf:=Hook.obs (kHook Hx.KK Hx.ads Hx.adsE)) (Ya:=Hook.val (kHook Hx.KK Hx.ads Hx.adsE)) (YP:=Hook.says (kHook Hx.KK Hx.ads Hx.adsE)) (N:=7608) ?hl (Hook.of _) (Hook.keeps _) (fun s e=>xl_of s (Bool.and_eq_true_iff.mp e).1) XL.keeps (by rfl) (by rfl) (by rfl) (fun s e=>recFacts_of (Bool.and_eq_true_iff.mp e).2) (by rfl) (by first | assumption | decide +kernel) (by decide +kernel) ⟨rfl,rfl,rfl,rfl,rfl,by decide +kernel⟩ ?hw ?hc
 case hl=>rw [Hx.ePf];exact Hx.leftF
 case hw=>w_witness2
 k_fill
 refine L2.walk_ofK (l:=PySem.Challenge.rw_earworks_k06_whole_ties_apart) (n:=63) (k:=6) (x:="_law_script") (CX:=L2.CX0) (sp:=Ew.spLaw) rfl (by decide) rfl ⟨rfl,by decide,by decide⟩ (fun w h Y=>PySem.W.kIn_of Y) ?F ?S ?C
 case F=>
  intro w mg fa h KX G hmg
  have T:∃ c,Nonempty (Pg.Txt (L2.KOf KX) mg c):=by
   dsimp only [L2.KOf]
   refine' Pg.Txt.go (Pg.Txt.mk (Ew.cd_mk KX G ?_ ?_ ?_ ?_ ?_) (Ew.cd_mk KX G ?_ ?_ ?_ ?_ ?_) (Ew.cd_mk KX G ?_ ?_ ?_ ?_ ?_) (Ew.cd_mk KX G ?_ ?_ ?_ ?_ ?_) (Ew.cd_mk KX G ?_ ?_ ?_ ?_ ?_) (Ew.cd_mk KX G ?_ ?_ ?_ ?_ ?_) (Ew.na_mk ?_) (Ew.na_mk ?_) (Ew.na_mk ?_) (Ew.na_mk ?_) (PySem.W.mg_none_of KX G ?_) (PySem.W.mg_none_of KX G ?_) (PySem.W.mg_none_of KX G ?_) (PySem.W.mg_none_of KX G ?_) (PySem.W.mg_none_of KX G ?_) (PySem.W.mg_none_of KX G ?_) (PySem.W.mg_none_of KX G ?_) (PySem.W.mg_none_of KX G ?_) (PySem.W.mg_none_of KX G ?_) (PySem.W.mg_none_of KX G ?_) (PySem.W.mg_none_of KX G ?_) (PySem.W.mg_none_of KX G ?_) (PySem.W.mg_none_of KX G ?_) (PySem.W.mg_none_of KX G ?_) (Ew.cn_mk KX G ?_) (Ew.cn_mk KX G ?_) (Ew.cn_mk KX G ?_) (Ew.ob_mk (L2.Cls.mk ?_ ?_ ?_ ?_) ?_ ?_ ?_ ?_) (Ew.ob_mk (L2.Cls.mk ?_ ?_ ?_ ?_) ?_ ?_ ?_ ?_) (Ew.ob_mk (L2.Cls.mk ?_ ?_ ?_ ?_) ?_ ?_ ?_ ?_) (Ew.kit_sub ?_ ?_ ?_ ?_) (Ew.kit_sub ?_ ?_ ?_ ?_) (Ew.kit_sub ?_ ?_ ?_ ?_) (Ew.kit_sub ?_ ?_ ?_ ?_) (Ew.kit_sub ?_ ?_ ?_ ?_) (Ew.kit_sub ?_ ?_ ?_ ?_) (Ew.kit_sub ?_ ?_ ?_ ?_) (Ew.kit_sub ?_ ?_ ?_ ?_) (Ew.kit_sub ?_ ?_ ?_ ?_) (Ew.kit_sub ?_ ?_ ?_ ?_) (Ew.kit_sub ?_ ?_ ?_ ?_) (Ew.kit_sub ?_ ?_ ?_ ?_) (Ew.kit_sub ?_ ?_ ?_ ?_) (Ew.kit_sub ?_ ?_ ?_ ?_) (Ew.kit_sub ?_ ?_ ?_ ?_) ⟨?_,?_,?_⟩ (Ew.Fd.of KX G (Ew.fx2 (Hx.te _) ?_ ?_ ?_ ?_)) (Ew.Fd.of KX G (Ew.fx2 (Hx.te _) ?_ ?_ ?_ ?_)) (Ew.Fd.of KX G (Ew.fx2 (Hx.te _) ?_ ?_ ?_ ?_)) (Ew.Fd.of KX G (Ew.fx2 (Hx.te _) ?_ ?_ ?_ ?_)) (Ew.Fd.of KX G (Ew.fx2 (Hx.te _) ?_ ?_ ?_ ?_)) (Ew.Fd.of KX G (Ew.fx2 (Hx.te _) ?_ ?_ ?_ ?_)) (Ew.Fd.of KX G (Ew.fx2 (Hx.te _) ?_ ?_ ?_ ?_)) (Ew.Md.of (Ew.fm2 (Hx.te2 _ _) ?_ ?_ ?_ ?_ ?_)) (Ew.Fd.of KX G (Ew.fx2 (Hx.te _) ?_ ?_ ?_ ?_)) (Ew.Fd.of KX G (Ew.fx2 (Hx.te _) ?_ ?_ ?_ ?_)) (Ew.Fd.of KX G (Ew.fx2 (Hx.te _) ?_ ?_ ?_ ?_)) (Ew.Fd.of KX G (Ew.fx2 (Hx.te _) ?_ ?_ ?_ ?_)) (Ew.Fd.of KX G (Ew.fx2 (Hx.te _) ?_ ?_ ?_ ?_)) (Ew.Fd.of KX G (Ew.fx2 (Hx.te _) ?_ ?_ ?_ ?_)) (Ew.Fd.of KX G (Ew.fx2 (Hx.te _) ?_ ?_ ?_ ?_)) (Ew.Ni.of (Ew.fm2 (Hx.te2 _ _) ?_ ?_ ?_ ?_ ?_) ?_ ?_) (Ew.Md.of (Ew.fm2 (Hx.te2 _ _) ?_ ?_ ?_ ?_ ?_)) (Ew.Ni.of (Ew.fm2 (Hx.te2 _ _) ?_ ?_ ?_ ?_ ?_) ?_ ?_) (Ew.Md.of (Ew.fm2 (Hx.te2 _ _) ?_ ?_ ?_ ?_ ?_)) (Ew.Fd.of KX G (Ew.fx2 (Hx.te _) ?_ ?_ ?_ ?_)) (Ew.Fd.of KX G (Ew.fx2 (Hx.te _) ?_ ?_ ?_ ?_)) (Ew.Fd.of KX G (Ew.fx2 (Hx.te _) ?_ ?_ ?_ ?_)) (Ew.Fd.of KX G (Ew.fx2 (Hx.te _) ?_ ?_ ?_ ?_)) (Ew.Fd.of KX G (Ew.fx2 (Hx.te _) ?_ ?_ ?_ ?_)) (Ew.Fd.of KX G (Ew.fx2 (Hx.te _) ?_ ?_ ?_ ?_)) (Ew.Fd.of KX G (Ew.fx2 (Hx.te _) ?_ ?_ ?_ ?_)) (Ew.Fd.of KX G (Ew.fx2 (Hx.te _) ?_ ?_ ?_ ?_)) (Ew.Fd.of KX G (Ew.fx2 (Hx.te _) ?_ ?_ ?_ ?_)) (Ew.Fd.of KX G (Ew.fx2 (Hx.te _) ?_ ?_ ?_ ?_)) (Ew.Fd.of KX G (Ew.fx2 (Hx.te _) ?_ ?_ ?_ ?_)) (Ew.Ni.of (Ew.fm2 (Hx.te2 _ _) ?_ ?_ ?_ ?_ ?_) ?_ ?_) (Ew.Fd.of KX G (Ew.fx2 (Hx.te _) ?_ ?_ ?_ ?_)) (Ew.Fd.of KX G (Ew.fx2 (Hx.te _) ?_ ?_ ?_ ?_)) (Ew.Fd.of KX G (Ew.fx2 (Hx.te _) ?_ ?_ ?_ ?_)) (Ew.Fd.of KX G (Ew.fx2 (Hx.te _) ?_ ?_ ?_ ?_)) (Ew.Fd.of KX G (Ew.fx2 (Hx.te _) ?_ ?_ ?_ ?_)) (Ew.Fd.of KX G (Ew.fx2 (Hx.te _) ?_ ?_ ?_ ?_)) (Ew.Fd.of KX G (Ew.fx2 (Hx.te _) ?_ ?_ ?_ ?_)) (Ew.Fd.of KX G (Ew.fx2 (Hx.te _) ?_ ?_ ?_ ?_)) (Ew.Fd.of KX G (Ew.fx2 (Hx.te _) ?_ ?_ ?_ ?_)) (Ew.Fd.of KX G (Ew.fx2 (Hx.te _) ?_ ?_ ?_ ?_)) (Ew.Fd.of KX G (Ew.fx2 (Hx.te _) ?_ ?_ ?_ ?_)) (Ew.Fd.of KX G (Ew.fx2 (Hx.te _) ?_ ?_ ?_ ?_)) (Ew.Fl'.of KX G (Ew.fxl2 (Hx.te _) ?_ ?_ ?_ ?_)))
   all_goals ((try dsimp only);try k_is)
   all_goals decide
  obtain ⟨c,⟨T⟩⟩:=T
  have e0:=hmg.symm.trans T.law.mgx
  have e1:fa=T.law.f:=by cases e0;rfl
  rw [e1]
  exact ⟨T.law.fd,T.law.bl,fun base kb nb=>(Pg.ok_law T).imp (Ew.spLaw_imp (Pg.law_true c T.ne _))⟩
 case S=>exact fun K H a ns hl hO hS=>⟨a,ns,rfl,hl,hS,fun _ _=>rfl⟩
 case C=>exact fun H s e s' h=>h
