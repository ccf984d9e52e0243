import PyProof.Rows.All
import Wide.All
import OpenK.AllK
import Wide.FinOn
import Lean
import PyProof.EqAt
import PyProof.EqKinds
import PyProof.TupleCall
import PySem.Challenge.RW_earworks_k08_written
set_option Elab.async false
set_option linter.all false
set_option maxRecDepth 100000
open PySem.W (instObj methodObj hideAll hideAll_get of_hideAll hideAll_none Frag lookIn InstAt plainGet hasDictIn findIn handedIn plainGet_of isFn plainOver takerIn makesIn typeIn emptyDict keepIn methodCall_KW specialIn takesIn mroIn kitOne kia_one kitx_list kitx_dict callWith_K callWith_K0 cellsFrom_some fnOf codeIn OpenLaw WalkO subIn clsIn nsIn mg_of excIn exmOne Looks exm_one kIn_of)
open PyProof.Rows (callWith_type1 envOfC boot_isinstance boot_int boot_bool boot_list boot_tuple boot_str boot_all AllBare boot_max boot_min boot_any)
open PySem.F (slot_str_split plainAttrs_str slot_str_join excBase_ValueError)
section
namespace L2
open PySem PySem.Spec PyProof.Rows
abbrev Key:=Sum Int Str
def keyIs:Key→Value→Bool
 | .inl k,v=>Value.isInt k v
 | .inr x,v=>Value.isStrOf x v
def keyH (w:World):Key→Int
 | .inl k=>hashInt k
 | .inr x=>hashStr w x
theorem bh:∀ {k:Key} {v:Value},keyIs k v=true→(∃ i t,k=Sum.inl i∧v=Value.int i t)∨(∃ x t,k=Sum.inr x∧v=Value.str x t)
 | .inl i,v,h=>by
  obtain ⟨t,e⟩:=Value.isInt_shape (k:=i) (v:=v) h
  exact .inl ⟨i,t,rfl,e⟩
 | .inr x,v,h=>by
  obtain ⟨t,e⟩:=Value.isStrOf_shape (x:=x) (v:=v) h
  exact .inr ⟨x,t,rfl,e⟩
theorem key_ll (a b:Int):decide ((Sum.inl a:Key)=Sum.inl b)=(a==b):=by
 by_cases e:a=b
 ·
  subst e;simp
 ·
  have h:¬(Sum.inl a:Key)=Sum.inl b:=fun q=>e (Sum.inl.inj q)
  rw [decide_eq_false h]
  exact (beq_eq_false_iff_ne.mpr e).symm
theorem key_rr (a b:Str):decide ((Sum.inr a:Key)=Sum.inr b)=decide (a=b):=by
 by_cases e:a=b
 ·
  subst e;simp
 ·
  have h:¬(Sum.inr a:Key)=Sum.inr b:=fun q=>e (Sum.inr.inj q)
  rw [decide_eq_false h,decide_eq_false e]
theorem key_lr (a:Int) (b:Str):decide ((Sum.inl a:Key)=Sum.inr b)=false:=decide_eq_false (fun q=>nomatch q)
theorem key_rl (a:Str) (b:Int):decide ((Sum.inr a:Key)=Sum.inl b)=false:=decide_eq_false (fun q=>nomatch q)
def mixKind (prog:Program) (w:World):PySem.KeyKind prog w Key where
 is:=keyIs
 hash:=keyH w
 inj:=fun v a b ha hb=>by
  rcases bh ha with ⟨i,t,rfl,rfl⟩ | ⟨x,t,rfl,rfl⟩
  ·
   rcases bh hb with ⟨j,u,rfl,e⟩ | ⟨y,u,rfl,e⟩
   ·
    injection e with e1 _;rw [e1]
   ·
    exact nomatch e
  ·
   rcases bh hb with ⟨j,u,rfl,e⟩ | ⟨y,u,rfl,e⟩
   ·
    exact nomatch e
   ·
    injection e with e1 _;rw [e1]
 byValue:=fun k v h=>by
  rcases bh h with ⟨i,t,rfl,rfl⟩ | ⟨x,t,rfl,rfl⟩ <;> rfl
 pyHash:=fun hv h=>by
  rcases bh hv with ⟨i,t,rfl,rfl⟩ | ⟨x,t,rfl,rfl⟩
  ·
   exact wpAny_pyHash_int h
  ·
   exact wpAny_pyHash_str h
 eqBool:=fun hu hv h=>by
  rcases bh hu with ⟨i,t,rfl,rfl⟩ | ⟨x,t,rfl,rfl⟩
  ·
   rcases bh hv with ⟨j,u,rfl,rfl⟩ | ⟨y,u,rfl,rfl⟩
   ·
    rw [key_ll] at h;exact wpAny_eqBool_int h
   ·
    rw [key_lr] at h;exact SeqAt.EqAt.int_str i t y u _ _ _ _ h
  ·
   rcases bh hv with ⟨j,u,rfl,rfl⟩ | ⟨y,u,rfl,rfl⟩
   ·
    rw [key_rl] at h;exact SeqAt.EqAt.str_int x t j u _ _ _ _ h
   ·
    rw [key_rr] at h;exact wpAny_eqBool_str h
 «strs»:=fun k x t v h=>by
  rcases bh h with ⟨i,u,rfl,e⟩ | ⟨y,u,rfl,e⟩
  ·
   exact nomatch e
  ·
   injection e with e1 _
   subst e1
   cases v <;> rfl
end L2
namespace L2
open PySem PySem.Spec PyProof.Rows
inductive V where
 | non | bl (b:Bool) | int (i:Int) | str (x:Str) | byt (b:Array UInt8) | flt (b:UInt64) | ref (a:Addr) | ty (n:String)
 deriving DecidableEq
def RelV:V→Value→Prop
 | .non,u=>u=Value.none
 | .bl b,u=>u=Value.bool b
 | .int i,u=>∃ t,u=Value.int i t
 | .str x,u=>∃ t,u=Value.str x t
 | .byt b,u=>∃ t,u=Value.bytes b t
 | .flt b,u=>∃ t,u=Value.float b t
 | .ref a,u=>u=Value.ref a
 | .ty n,u=>u=Value.type n
abbrev aA:List V→List Value→Prop:=Paired RelV
theorem aA.length {xs:List V} {us:List Value} (r:aA xs us):xs.length=us.length:=Paired.length r
theorem aA.get:∀ {xs:List V} {us:List Value} {i:Nat} {x:V},aA xs us→xs[i]?=some x→∃ u,us[i]?=some u∧RelV x u
 | _,_,_,_,.nil,e=>by simp at e
 | _,_,0,_,.cons r _,e=>by simp at e;subst e;exact ⟨_,rfl,r⟩
 | _,_,i+1,x,.cons _ t,e=>by
  obtain ⟨u,h1,h2⟩:=aA.get (i:=i) (x:=x) t (by simpa using e)
  exact ⟨u,by simpa using h1,h2⟩
theorem aA.append:∀ {xs ys:List V} {us ws:List Value},aA xs us→aA ys ws→aA (xs++ys) (us++ws)
 | _,_,_,_,.nil,s=>s
 | _,_,_,_,.cons r t,s=>.cons r (aA.append t s)
theorem aA.take:∀ {xs:List V} {us:List Value} (n:Nat),aA xs us→aA (xs.take n) (us.take n)
 | _,_,0,_=>.nil
 | _,_,_+1,.nil=>.nil
 | _,_,n+1,.cons r t=>.cons r (aA.take n t)
theorem aA.drop:∀ {xs:List V} {us:List Value} (n:Nat),aA xs us→aA (xs.drop n) (us.drop n)
 | _,_,0,r=>r
 | _,_,_+1,.nil=>.nil
 | _,_,n+1,.cons _ t=>aA.drop n t
def RelO:Option V→Option Value→Prop
 | some v,some u=>RelV v u
 | none,none=>True
 | _,_=>False
def KV {κ:Type}:List (κ×V)→List (κ×Value)→Prop:=Paired fun (p:κ×V) (q:κ×Value)=>p.1=q.1∧RelV p.2 q.2
def kV:Key→V
 | .inl i=>.int i
 | .inr x=>.str x
inductive HO where
 | lst (xs:List V)
 | tup (xs:List V)
 | dK (kvs:List (Key×V)) | dT (kvs:List (List Key×V))
 | set (S:Int→Bool) (n:Nat)
 | ins (C dx:Addr) (fs:List (Str×V))
 | own (x:Addr)
 | xd (fs:List (Str×V))
 | met (f x:Addr)
 | rng (lo hi:Int)
 | frz (o:Obj) (u:HO)
 | tbl (ps:Array Value)
 | ext (φ:Heap→Prop)
abbrev Hp:=Addr→Option HO
def upd (H:Hp) (a:Addr) (o:HO):Hp:=fun b=>if b=a then some o else H b
theorem aj {H:Hp} {a:Addr} {o:HO}:upd H a o a=some o:=by unfold upd;rw [if_pos rfl]
theorem ak {H:Hp} {a b:Addr} {o:HO} (h:b≠a):upd H a o b=H b:=by unfold upd;rw [if_neg h]
theorem az {H:Hp} {a b:Addr} {o:HO} (h:H a=some o) (h':H b=none):a≠b:=by
 intro e;subst e;rw [h] at h';cases h'
section
variable (P:Program) (w:World)
def bE (H:Hp) (h:Heap) (a:Addr):HO→Prop
 | .lst xs=>xs.length≤sizeLine∧∃ (its:List Value) (n:Nat),aA xs its∧h.get? a=some { cls:=.type "list",data:=.seq its.toArray n }
 | .tup xs=>xs.length≤sizeLine∧∃ its:List Value,aA xs its∧IsTup h a its.toArray
 | .dK kvs=>kvs.length≤sizeLine∧(a==sysModules)=false∧∃ vs,KV kvs vs∧h.DictOf (mixKind P w) a vs
 | .dT kvs=>kvs.length≤sizeLine∧(a==sysModules)=false∧∃ xs:List (List Key×Addr×Value),
  Paired (fun (p:List Key×V) (q:List Key×Addr×Value)=>p.1=q.1∧H q.2.1=some (.tup (p.1.map kV))∧RelV p.2 q.2.2) kvs xs∧
  ∃ o es ep,h.get? a=some o∧o.ExactDict∧o.data=.dict es ep∧es.toList=xs.map (entryOfKey (tupleKind (mixKind P w)))∧(xs.map (·.1)).Nodup
 | .set S n=>h.SetOf (intKind P w) a S n
 | .ins C dx fs=>H dx=some (.own a)∧fs.length≤1000∧dx≠a∧h.get? a=some (instObj C dx)∧
  ∃ mA,h.Ns1 dx mA∧(∀ f,RelO (fs.lookup f) (mA f))∧PySem.Within mA (fs.map (·.1))
 | .own _=>∃ o,h.get? a=some o
 | .xd fs=>∃ mA,h.Ns1 a mA∧∀ f,RelO (fs.lookup f) (mA f)
 | .rng lo hi=>∃ t u v,h.get? a=some { cls:=.type "range",data:=.fields #[.int lo t,.int hi u,.int 1 v] }
 | .frz o u=>h.get? a=some o∧bE H h a u
 | .tbl ps=>h.get? a=some { cls:=.none,data:=.fields ps }
 | .met f x=>h.get? a=some (methodObj (.ref f) (.ref x))
 | .ext φ=>φ h∧(∃ o,h.get? a=some o)∧∀ h1 h2:Heap,φ h1→(∀ o,h1.get? a=some o→h2.get? a=some o)→φ h2
def HOk (H:Hp) (h:Heap):Prop:=∀ a o,H a=some o→bE P w H h a o
end
section
variable {P:Program} {w:World} {H H':Hp} {h h':Heap} {a:Addr} {o:HO}
theorem bE.lt (x:bE P w H h a o):a<h.objs.size:=by
 cases o with
 | lst xs=>obtain ⟨_,_,_,_,e⟩:=x;exact Heap.lt_size e
 | tup xs=>obtain ⟨_,_,_,p⟩:=x;exact p.lt
 | dK kvs=>obtain ⟨_,_,_,_,o,_,_,e,_⟩:=x;exact Heap.lt_size e
 | dT kvs=>obtain ⟨_,_,_,_,o,_,_,e,_⟩:=x;exact Heap.lt_size e
 | set S n=>obtain ⟨o,_,_,_,e,_⟩:=x;exact Heap.lt_size e
 | ins C dx fs=>obtain ⟨_,_,_,e,_⟩:=x;exact Heap.lt_size e
 | own y=>obtain ⟨_,e⟩:=x;exact Heap.lt_size e
 | xd fs=>obtain ⟨_,⟨_,_,_,e,_⟩,_⟩:=x;exact Heap.lt_size e
 | rng lo hi=>obtain ⟨_,_,_,e⟩:=x;exact Heap.lt_size e
 | frz ob u=>obtain ⟨e,_⟩:=x;exact Heap.lt_size e
 | tbl ps=>exact Heap.lt_size (show h.get? a=some _ from x)
 | met f y=>exact Heap.lt_size (show h.get? a=some _ from x)
 | ext φ=>obtain ⟨_,⟨_,e⟩,_⟩:=x;exact Heap.lt_size e
theorem Paired.mapP {α β:Type} {F G:α→β→Prop}:∀ {l₁:List α} {l₂:List β},Paired F l₁ l₂→(∀ a b,F a b→G a b)→Paired G l₁ l₂
 | _,_,.nil,_=>.nil
 | _,_,.cons r t,f=>.cons (f _ _ r) (Paired.mapP t f)
theorem bE.stay (x:bE P w H h a o) (k:∀ b u,(b=a∨H b=some (.own a))→h.get? b=some u→h'.get? b=some u)
  (ho:∀ b,H b=some (.own a)→H' b=some (.own a)) (ht:∀ b xs,H b=some (.tup xs)→H' b=some (.tup xs)):bE P w H' h' a o:=by
 induction o with
 | lst xs=>obtain ⟨z,its,n,r,e⟩:=x;exact ⟨z,its,n,r,k _ _ (.inl rfl) e⟩
 | tup xs=>obtain ⟨z,its,r,ob,e,c⟩:=x;exact ⟨z,its,r,ob,k _ _ (.inl rfl) e,c⟩
 | dK kvs=>obtain ⟨z,y,vs,r,ob,es,ep,e,c⟩:=x;exact ⟨z,y,vs,r,ob,es,ep,k _ _ (.inl rfl) e,c⟩
 | dT kvs=>
  obtain ⟨z,y,xs,r,ob,es,ep,e,c⟩:=x
  exact ⟨z,y,xs,Paired.mapP r fun p q z=>⟨z.1,ht _ _ z.2.1,z.2.2⟩,ob,es,ep,k _ _ (.inl rfl) e,c⟩
 | set S n=>obtain ⟨ob,es,ep,t,e,c⟩:=x;exact ⟨ob,es,ep,t,k _ _ (.inl rfl) e,c⟩
 | ins C dx fs=>
  obtain ⟨d,z,ne,e,mA,⟨od,es,ep,e2,c⟩,r⟩:=x
  exact ⟨ho _ d,z,ne,k _ _ (.inl rfl) e,mA,⟨od,es,ep,k _ _ (.inr d) e2,c⟩,r⟩
 | own y=>obtain ⟨ob,e⟩:=x;exact ⟨ob,k _ _ (.inl rfl) e⟩
 | xd fs=>obtain ⟨mA,⟨od,es,ep,e,c⟩,r⟩:=x;exact ⟨mA,⟨od,es,ep,k _ _ (.inl rfl) e,c⟩,r⟩
 | rng lo hi=>obtain ⟨t,u,v,e⟩:=x;exact ⟨t,u,v,k _ _ (.inl rfl) e⟩
 | frz ob u ih=>obtain ⟨e,q⟩:=x;exact ⟨k _ _ (.inl rfl) e,ih q⟩
 | tbl ps=>
  have e:h.get? a=some { cls:=.none,data:=.fields ps }:=x
  show h'.get? a=some { cls:=.none,data:=.fields ps }
  exact k a _ (.inl rfl) e
 | met f y=>
  have e:h.get? a=some (methodObj (.ref f) (.ref y)):=x
  show h'.get? a=some (methodObj (.ref f) (.ref y))
  exact k a _ (.inl rfl) e
 | ext φ=>obtain ⟨p,⟨o,e⟩,st⟩:=x;exact ⟨st _ _ p fun o q=>k _ _ (.inl rfl) q,⟨o,k _ _ (.inl rfl) e⟩,st⟩
theorem HOk.lt (x:HOk P w H h) (e:H a=some o):a<h.objs.size:=(x a o e).lt
theorem HOk.fresh (x:HOk P w H h) (e:h.objs.size≤a):H a=none:=by
 cases q:H a with
 | none=>rfl
 | some u=>exact absurd (Nat.lt_of_lt_of_le (x.lt q) e) (Nat.lt_irrefl _)
theorem HOk.kept (x:HOk P w H h) (k:∀ b u,h.get? b=some u→h'.get? b=some u):HOk P w H h':=fun a o e=>
 (x a o e).stay (fun b u _ q=>k b u q) (fun _ q=>q) fun _ _ q=>q
theorem HOk.laid (x:HOk P w H h) (k:∀ b u,h.get? b=some u→h'.get? b=some u) (hp:h.objs.size≤a) (new:bE P w (upd H a o) h' a o):HOk P w (upd H a o) h':=fun b u e=>by
 have hn:=x.fresh hp
 by_cases hb:b=a
 ·
  subst hb;rw [aj] at e;cases e;exact new
 ·
  rw [ak hb] at e
  exact (x b u e).stay (fun c v _ q=>k c v q) (fun c q=>by rw [ak (az q hn)];exact q) fun c xs q=>by rw [ak (az q hn)];exact q
end
def Rd (H:Hp) (a:Addr) (u:HO):Prop:=H a=some u∨∃ o,H a=some (.frz o u)
theorem Rd.ok {P:Program} {w:World} {H:Hp} {h:Heap} {a:Addr} {u:HO} (r:Rd H a u) (x:HOk P w H h):bE P w H h a u:=by
 rcases r with r | ⟨o,r⟩
 ·
  exact x a u r
 ·
  obtain ⟨_,q⟩:=x a _ r
  exact q
def Mut:Option HO→Prop
 | some (.lst _)=>True
 | some (.dK _)=>True
 | some (.dT _)=>True
 | some (.set _ _)=>True
 | some (.ins _ _ _)=>True
 | some (.ext _)=>True
 | _=>False
section
variable {P:Program} {w:World} {H:Hp} {h h':Heap} {x e:Addr} {o':HO}
theorem HOk.write (ok:HOk P w H h) (mu:Mut (H x)) (he:e=x∨H e=some (.own x)) (k:∀ b u,b≠e→h.get? b=some u→h'.get? b=some u) (heo:∃ u,h'.get? e=some u)
  (new:bE P w (upd H x o') h' x o'):HOk P w (upd H x o') h':=fun b u q=>by
 have nown:∀ c y,H c=some (.own y)→c≠x:=fun c y r z=>by subst z;rw [r] at mu;exact mu
 have ntup:∀ c xs,H c=some (.tup xs)→c≠x:=fun c xs r z=>by subst z;rw [r] at mu;exact mu
 by_cases hb:b=x
 ·
  subst hb;rw [aj] at q;cases q;exact new
 ·
  rw [ak hb] at q
  by_cases hbe:b=e
  ·
   have q':H b=some (.own x):=by
    rcases he with z | z
    ·
     exact absurd (hbe.trans z) hb
    ·
     rw [hbe];exact z
   rw [q] at q';cases q'
   obtain ⟨v,hv⟩:=heo
   exact ⟨v,by rw [hbe];exact hv⟩
  ·
   refine (ok b u q).stay (fun c v hc r=>k c v ?_ r) (fun c r=>by rw [ak (nown c b r)];exact r) fun c xs r=>by rw [ak (ntup c xs r)];exact r
   rcases hc with rfl | hc
   ·
    exact hbe
   ·
    rintro rfl
    rcases he with z | z
    ·
     exact nown c b hc z
    ·
     rw [hc] at z;cases z;exact hb rfl
end
structure Un (fs ex:List Addr) (H H':Hp) (h h':Heap):Prop where
 keep:∀ b o,h.get? b=some o→H b=none→b∉fs→b∉ex→h'.get? b=some o
 slot:∀ b o,h.get? b=some o→H b=none→b∈fs→b∉ex→∃ sl,h'.get? b=some { o with slots:=sl }
 free:∀ b o,h.get? b=some o→H b=none→b∉ex→H' b=none
 there:∀ b o,h.get? b=some o→b∉ex→∃ o',h'.get? b=some o'
 tups:∀ b xs,H b=some (.tup xs)→H' b=some (.tup xs)
 frzs:∀ b o u,H b=some (.frz o u)→H' b=some (.frz o u)
 tbls:∀ b ps,H b=some (.tbl ps)→∃ more,H' b=some (.tbl (ps++more))
section
variable {fs fs' ex ex':List Addr} {H H1 H2:Hp} {h h1 h2 h':Heap} {a x e:Addr} {o:HO}
theorem Un.any (u:Un fs ex H H1 h h1) {b:Addr} {ob:Obj} (q:h.get? b=some ob) (n:H b=none) (hx:b∉ex):∃ sl,h1.get? b=some { ob with slots:=sl }:=by
 by_cases hb:b∈fs
 ·
  exact u.slot b ob q n hb hx
 ·
  exact ⟨ob.slots,u.keep b ob q n hb hx⟩
theorem Un.kept (k:∀ b u,h.get? b=some u→h'.get? b=some u):Un fs ex H H h h':=
 ⟨fun b ob q _ _ _=>k b ob q,fun b ob q _ _ _=>⟨ob.slots,k b ob q⟩,fun _ _ _ n _=>n,fun b ob q _=>⟨ob,k b ob q⟩,fun _ _ q=>q,fun _ _ _ q=>q,fun _ ps q=>⟨#[],by rw [q];simp⟩⟩
theorem Un.refl:Un fs ex H H h h:=Un.kept fun _ _ q=>q
theorem Un.laid (k:∀ b u,h.get? b=some u→h'.get? b=some u) (hp:h.objs.size≤a) (hn:H a=none):Un fs ex H (upd H a o) h h' where
 keep:=fun b u q _ _ _=>k b u q
 slot:=fun b u q _ _ _=>⟨u.slots,k b u q⟩
 free:=fun b u q n _=>by rw [ak (Nat.ne_of_lt (Nat.lt_of_lt_of_le (Heap.lt_size q) hp))];exact n
 there:=fun b u q _=>⟨u,k b u q⟩
 tups:=fun b xs q=>by rw [ak (az q hn)];exact q
 frzs:=fun b u xs q=>by rw [ak (az q hn)];exact q
 tbls:=fun b ps q=>⟨#[],by rw [ak (az q hn),q];simp⟩
theorem Un.write (mu:Mut (H x)) (he:e=x∨H e=some (.own x)) (k:∀ b u,b≠e→h.get? b=some u→h'.get? b=some u) (heo:∃ u,h'.get? e=some u):Un fs ex H (upd H x o) h h':=by
 have hx:∀ b,H b=none→b≠x:=fun b n z=>by subst z;rw [n] at mu;exact mu
 have hb:∀ b,H b=none→b≠e:=fun b n z=>by
  subst z
  rcases he with r | r
  ·
   exact hx b n r
  ·
   rw [n] at r;cases r
 have hm:∀ b u,H b=some u→¬Mut (some u)→b≠x:=fun b u q nm z=>by subst z;rw [q] at mu;exact nm mu
 refine ⟨fun b u q n _ _=>k b u (hb b n) q,fun b u q n _ _=>⟨u.slots,k b u (hb b n) q⟩,fun b u q n _=>by rw [ak (hx b n)];exact n,fun b u q _=>?_,
  fun b xs q=>by rw [ak (hm b _ q fun z=>z)];exact q,fun b u xs q=>by rw [ak (hm b _ q fun z=>z)];exact q,fun b ps q=>⟨#[],by rw [ak (hm b _ q fun z=>z),q];simp⟩⟩
 by_cases hbe:b=e
 ·
  subst hbe;exact heo
 ·
  exact ⟨u,k b u hbe q⟩
end
def trk (h:Heap) (H:Hp):List Addr:=(List.range h.objs.size).filter fun a=>(H a).isSome
def hidT (h:Heap) (H:Hp):Heap:=hideAll h (trk h H)
theorem hidT_size (h:Heap) (H:Hp):(hidT h H).objs.size=h.objs.size:=PySem.W.hideAll_size _ _
theorem hidT_get {h:Heap} {H:Hp} {b:Addr} {o:Obj} (e:h.get? b=some o) (n:H b=none):(hidT h H).get? b=some o:=
 hideAll_get _ e fun hm=>by
  have q:(H b).isSome=true:=(List.mem_filter.mp hm).2
  rw [n] at q;simp at q
theorem of_hidT {h:Heap} {H:Hp} {b:Addr} {o:Obj} (e:(hidT h H).get? b=some o):h.get? b=some o∧H b=none:=by
 have e':h.get? b=some o:=of_hideAll (trk h H) e
 refine ⟨e',?_⟩
 cases q:H b with
 | none=>rfl
 | some x=>
  have hm:b∈trk h H:=List.mem_filter.mpr ⟨List.mem_range.mpr (Heap.lt_size e'),by simp [q]⟩
  have z:(hidT h H).get? b=none:=hideAll_none (trk h H) hm
  rw [z] at e;cases e
end L2
namespace L2
open PySem PySem.Spec PyProof.Rows
structure Mod (K:Frag) (mg:Str→Option Value) (base:Heap):Prop where
 kin:K.In base
 glob:base.Ns mainGlobals mg
 blt:∃ mb,base.Ns builtinsNs mb∧∀ x:Str,x≠"__name__"→mb x=bootBuiltins x
 nolimit:base.NoLimit
structure Cx where
 prog:Program
 w:World
 K:Frag
 mg:Str→Option Value
 base:Heap
 A:Around
 N:List Str
 s₀:Shared
 H₀:Hp
 env:Env
 outer:List Env
 stack:List Env
 ex:List Addr
 fn:Str→Bool
 calm:Bool
 pn:List (Addr×Obj)
 xe:Value→Shared→Prop
def frs (l:List Env):List Addr:=l.filterMap (·.frame)
abbrev Cx.fs (X:Cx):List Addr:=frs X.outer
def Vis (sc:Scope) (x:Str):Prop:=sc.names.lookup x=some .local∨sc.names.lookup x=some .cell∨sc.names.lookup x=some .free
def Loc (sc:Scope) (x:Str):Prop:=sc.names.lookup x=some .local∨sc.names.lookup x=some .cell
def Look (env:Env) (h:Heap) (m:Str→Option Value) (x:Str) (u:Value):Prop:=
 (env.kindOf x=some .local∧m x=some u)∨((env.kindOf x=some .cell∨env.kindOf x=some .free)∧∃ c,env.cells.lookup x=some c∧h.IsCell c (some u))
structure Cx.Ok (X:Cx):Prop where
 mod:Mod X.K X.mg X.base
 kind:X.env.scope.kind=.function
 glob:X.env.globals=mainGlobals
 blt:X.env.builtins=builtinsNs
 above:X.s₀.heap.objs.size≤X.env.locals
 inj:∀ x y c,X.env.cells.lookup x=some c→X.env.cells.lookup y=some c→x=y
 has:∀ x,(X.env.kindOf x=some .cell∨X.env.kindOf x=some .free)→∃ c,X.env.cells.lookup x=some c
 cab:∀ x c,X.fn x=true→X.env.cells.lookup x=some c→X.s₀.heap.objs.size≤c
 hd:X.calm=true→X.A.handled=none
 frames:X.A.frames=some X.stack
 stk:X.stack=X.outer∨(X.stack=X.env::X.outer∧X.env.frame=some X.env.locals)
 exf:∀ b∈X.ex,b≠X.env.locals∧∀ x c,X.env.cells.lookup x=some c→c≠b
 bs:∀ b o,X.base.get? b=some o→X.s₀.heap.get? b=some o∧X.H₀ b=none
 bsz:X.base.objs.size≤X.s₀.heap.objs.size
 noex:∀ b o,X.base.get? b=some o→b∉X.ex
 exfs:∀ b∈X.ex,b∉X.fs
 funs:X.s₀.heap.FunFrames X.base X.outer
 frf:∀ b∈X.fs,X.H₀ b=none
structure Inv (X:Cx) (pins:List (Addr×Obj)) (σ:List (Option V)) (H:Hp) (s:Shared):Prop where
 ok:X.Ok
 os:s.os=X.s₀.os
 bare:AllBare s.gens
 base:Un X.fs X.ex X.H₀ H X.s₀.heap s.heap
 loc:∃ m,s.heap.Ns X.env.locals m∧∀ (i:Nat) (x:Str) (v:V),X.N[i]?=some x→σ[i]?=some (some v)→Vis X.env.scope x→∃ u,RelV v u∧Look X.env s.heap m x u
 cell:∀ x c,X.env.cells.lookup x=some c→∃ v,s.heap.IsCell c v
 free:H X.env.locals=none
 freeC:∀ x c,X.env.cells.lookup x=some c→H c=none
 pin:∀ p∈X.pn++pins,s.heap.get? p.1=some p.2∧H p.1=none∧p.1≠X.env.locals∧p.1∉X.fs∧∀ v,p.2.data≠.cell v
 hok:HOk X.prog X.w H s.heap
 len:σ.length=X.N.length
section
variable {X:Cx} {pins:List (Addr×Obj)} {σ:List (Option V)} {H H':Hp} {s:Shared} {h':Heap}
theorem Cx.Ok.nofr (ok:X.Ok) {b:Addr} {o:Obj} (e:X.base.get? b=some o):b∉X.fs:=fun hb=>by
 have:=(ok.funs.mem hb).1
 rw [e] at this;cases this
theorem Inv.bs (I:Inv X pins σ H s):∀ b o,X.base.get? b=some o→s.heap.get? b=some o∧H b=none:=fun b o e=>
 ⟨I.base.keep b o (I.ok.bs b o e).1 (I.ok.bs b o e).2 (I.ok.nofr e) (I.ok.noex b o e),I.base.free b o (I.ok.bs b o e).1 (I.ok.bs b o e).2 (I.ok.noex b o e)⟩
theorem Inv.bk (I:Inv X pins σ H s):∀ b o,X.base.get? b=some o→s.heap.get? b=some o:=fun b o e=>(I.bs b o e).1
theorem Inv.mod (I:Inv X pins σ H s):Mod X.K X.mg X.base:=I.ok.mod
theorem Inv.kIn (I:Inv X pins σ H s):X.K.In s.heap:=I.ok.mod.kin.keeps I.bk
theorem Inv.lt (I:Inv X pins σ H s):X.env.locals<s.heap.objs.size:=let ⟨_,hn,_⟩:=I.loc;hn.lt
theorem Inv.sz (I:Inv X pins σ H s):X.s₀.heap.objs.size≤s.heap.objs.size:=Nat.le_trans I.ok.above (Nat.le_of_lt I.lt)
theorem Inv.nofs (I:Inv X pins σ H s) {a:Addr} (h:s.heap.objs.size≤a):a∉X.fs:=fun hb=>by
 obtain ⟨_,o,ho,_⟩:=I.ok.funs.mem hb
 exact absurd (Nat.lt_of_lt_of_le (Heap.lt_size ho) (Nat.le_trans I.sz h)) (Nat.lt_irrefl _)
theorem Inv.cne (I:Inv X pins σ H s):∀ x c,X.env.cells.lookup x=some c→c≠X.env.locals:=fun x c e z=>by
 obtain ⟨v,o,ho,hd⟩:=I.cell x c e
 obtain ⟨m,⟨o',es,ep,ho',hd',_⟩,_⟩:=I.loc
 rw [z,ho'] at ho;cases ho;rw [hd'] at hd;cases hd
theorem Inv.funs (I:Inv X pins σ H s):s.heap.FunFrames X.base X.outer:=by
 have all:∀ (l:List Env),(∀ b∈frs l,b∈X.fs)→X.s₀.heap.FunFrames X.base l→s.heap.FunFrames X.base l:=by
  intro l
  induction l with
  | nil=>intro _ _;trivial
  | cons env r ih=>
   intro hs hl
   obtain ⟨hk,⟨L,o,hf,hn,ho,hd⟩,hr⟩:=hl
   have hL:L∈X.fs:=hs L (by unfold frs;rw [List.filterMap_cons,hf];exact List.mem_cons_self)
   obtain ⟨sl,e⟩:=I.base.slot L o ho (I.ok.frf L hL) hL fun z=>I.ok.exfs L z hL
   exact ⟨hk,⟨L,_,hf,hn,e,hd⟩,ih (fun b hb=>hs b (by unfold frs;rw [List.filterMap_cons,hf];exact List.mem_cons_of_mem _ hb)) hr⟩
 exact all X.outer (fun _ hb=>hb) I.ok.funs
theorem Inv.stack (I:Inv X pins σ H s):s.heap.FunFrames X.base X.stack:=by
 rcases I.ok.stk with e | ⟨e,hf⟩
 ·
  rw [e];exact I.funs
 ·
  rw [e]
  obtain ⟨m,hn,_⟩:=I.loc
  refine .cons (by rw [I.ok.kind];decide) hf hn ?_ I.funs
  exact Heap.get?_none_of_le (Nat.le_trans I.ok.bsz I.ok.above)
theorem Inv.stkSub (I:Inv X pins σ H s):∀ b∈frs X.stack,b∈X.env.locals::X.fs:=fun b hb=>by
 rcases I.ok.stk with e | ⟨e,hf⟩
 ·
  rw [e] at hb;exact List.mem_cons_of_mem _ hb
 ·
  rw [e] at hb
  unfold frs at hb
  rw [List.filterMap_cons,hf] at hb
  exact hb
theorem Inv.stkFree (I:Inv X pins σ H s):∀ b∈frs X.stack,H b=none:=fun b hb=>by
 rcases List.mem_cons.mp (I.stkSub b hb) with e | hb
 ·
  rw [e];exact I.free
 ·
  obtain ⟨_,o,ho,_⟩:=I.ok.funs.mem hb
  exact I.base.free b o ho (I.ok.frf b hb) fun z=>I.ok.exfs b z hb
theorem Inv.step {g':Array GenState} {t':Nat} {d':Drawn} {ch:List Addr} (I:Inv X pins σ H s)
  (hch:∀ b∈ch,(b∈X.ex∨X.s₀.heap.objs.size≤b)∧b≠X.env.locals∧(∀ x c,X.env.cells.lookup x=some c→c≠b)∧∀ p∈X.pn++pins,p.1≠b)
  (keep:∀ b o,b≠X.env.locals→b∉X.fs→b∉ch→s.heap.get? b=some o→H b=none→h'.get? b=some o)
  (slot:∀ b o,b≠X.env.locals→b∈X.fs→b∉ch→s.heap.get? b=some o→H b=none→∃ sl,h'.get? b=some { o with slots:=sl }) (free:∀ b o,b∉ch→s.heap.get? b=some o→H b=none→H' b=none)
  (there:∀ b o,b∉ch→s.heap.get? b=some o→∃ o',h'.get? b=some o')
  (tups:∀ b xs,H b=some (.tup xs)→H' b=some (.tup xs)) (frzs:∀ b o u,H b=some (.frz o u)→H' b=some (.frz o u)) (tbls:∀ b ps,H b=some (.tbl ps)→∃ more,H' b=some (.tbl (ps++more)))
  (ns:∀ m,s.heap.Ns X.env.locals m→h'.Ns X.env.locals m) (hok:HOk X.prog X.w H' h') (hg:AllBare g') :
  Inv X pins σ H' { s with heap:=h',gens:=g',drawn:=d',toks:=t' }:=by
 have neL:∀ b o,X.s₀.heap.get? b=some o→b≠X.env.locals:=fun b o e=>Nat.ne_of_lt (Nat.lt_of_lt_of_le (Heap.lt_size e) I.ok.above)
 have neC:∀ b o,X.s₀.heap.get? b=some o→b∉X.ex→b∉ch:=fun b o e hx hb=>by
  rcases (hch b hb).1 with z | z
  ·
   exact hx z
  ·
   exact absurd (Nat.lt_of_lt_of_le (Heap.lt_size e) z) (Nat.lt_irrefl _)
 have cellK:∀ x c,X.env.cells.lookup x=some c→∀ v,s.heap.IsCell c v→h'.IsCell c v:=fun x c e v ⟨o,ho,hd⟩=>by
  have nch:c∉ch:=fun z=>(hch c z).2.2.1 x c e rfl
  by_cases hc:c∈X.fs
  ·
   obtain ⟨sl,q⟩:=slot c o (I.cne x c e) hc nch ho (I.freeC x c e)
   exact ⟨_,q,hd⟩
  ·
   exact ⟨o,keep c o (I.cne x c e) hc nch ho (I.freeC x c e),hd⟩
 refine ⟨I.ok,I.os,hg,⟨fun b o e n hb hx=>?_,fun b o e n hb hx=>?_,fun b o e n hx=>?_,fun b o e hx=>?_,fun b xs e=>tups b xs (I.base.tups b xs e),fun b o xs e=>frzs b o xs (I.base.frzs b o xs e),fun b ps e=>?_⟩,?_,fun x c e=>?_,?_,fun x c e=>?_,fun p hp=>?_,hok,I.len⟩
 ·
  exact keep b o (neL b o e) hb (neC b o e hx) (I.base.keep b o e n hb hx) (I.base.free b o e n hx)
 ·
  obtain ⟨sl,e1⟩:=I.base.slot b o e n hb hx
  obtain ⟨sl',e2⟩:=slot b _ (neL b o e) hb (neC b o e hx) e1 (I.base.free b o e n hx)
  exact ⟨sl',e2⟩
 ·
  obtain ⟨o',e1⟩:=I.base.there b o e hx
  exact free b o' (neC b o e hx) e1 (I.base.free b o e n hx)
 ·
  obtain ⟨o',e1⟩:=I.base.there b o e hx
  exact there b o' (neC b o e hx) e1
 ·
  obtain ⟨m1,e1⟩:=I.base.tbls b ps e
  obtain ⟨m2,e2⟩:=tbls b _ e1
  exact ⟨m1++m2,by rw [e2,Array.append_assoc]⟩
 ·
  obtain ⟨m,hn,hl⟩:=I.loc
  refine ⟨m,ns m hn,fun i x v e1 e2 e3=>?_⟩
  obtain ⟨u,r,l⟩:=hl i x v e1 e2 e3
  refine ⟨u,r,?_⟩
  rcases l with l | ⟨k,c,e,z⟩
  ·
   exact .inl l
  ·
   exact .inr ⟨k,c,e,cellK x c e _ z⟩
 ·
  obtain ⟨v,z⟩:=I.cell x c e
  exact ⟨v,cellK x c e v z⟩
 ·
  obtain ⟨m,⟨o,_,_,ho,_⟩,_⟩:=I.loc
  exact free _ o (fun z=>(hch _ z).2.1 rfl) ho I.free
 ·
  obtain ⟨v,o,ho,hd⟩:=I.cell x c e
  exact free c o (fun z=>(hch c z).2.2.1 x c e rfl) ho (I.freeC x c e)
 ·
  obtain ⟨e,n,ne,nf,d⟩:=I.pin p hp
  have nch:p.1∉ch:=fun z=>(hch p.1 z).2.2.2 p hp rfl
  exact ⟨keep p.1 p.2 ne nf nch e n,free p.1 p.2 nch e n,ne,nf,d⟩
theorem Inv.un {t':Nat} (I:Inv X pins σ H s) (u:Un X.fs [] H H' s.heap h') (hok:HOk X.prog X.w H' h'):Inv X pins σ H' { s with heap:=h',toks:=t' }:=by
 obtain ⟨m,⟨o,es,ep,ho,r⟩,_⟩:=id I.loc
 obtain ⟨sl,hL⟩:=u.any ho I.free (by simp)
 exact I.step (g':=s.gens) (d':=s.drawn) (ch:=[]) (fun _ z=>nomatch z) (fun b o _ hb _ e n=>u.keep b o e n hb (by simp)) (fun b o _ hb _ e n=>u.slot b o e n hb (by simp)) (fun b o _ e n=>u.free b o e n (by simp)) (fun b o _ e=>u.there b o e (by simp)) u.tups u.frzs u.tbls (fun m' hm=>by
  obtain ⟨o',es',ep',ho',r'⟩:=hm
  rw [ho] at ho';cases ho'
  exact ⟨_,es',ep',hL,r'⟩) hok I.bare
theorem Inv.call {g':Array GenState} {t':Nat} {d':Drawn} {ch:List Addr} (I:Inv X pins σ H s) (u:Un (frs X.stack) ch H H' s.heap h') (hok:HOk X.prog X.w H' h') (hg:AllBare g')
  (hch:∀ b∈ch,(b∈X.ex∨X.s₀.heap.objs.size≤b)∧b≠X.env.locals∧(∀ x c,X.env.cells.lookup x=some c→c≠b)∧∀ p∈X.pn++pins,p.1≠b) :
  Inv X pins σ H' { s with heap:=h',gens:=g',drawn:=d',toks:=t' }:=by
 obtain ⟨m,⟨o,es,ep,ho,r⟩,_⟩:=id I.loc
 obtain ⟨sl,hL⟩:=u.any ho I.free fun z=>(hch _ z).2.1 rfl
 exact I.step (ch:=ch) hch (fun b o hL hb hc e n=>u.keep b o e n (fun z=>(List.mem_cons.mp (I.stkSub b z)).elim hL hb) hc) (fun b o _ _ hc e n=>u.any e n hc) (fun b o hc e n=>u.free b o e n hc) (fun b o hc e=>u.there b o e hc) u.tups u.frzs u.tbls (fun m' hm=>by
  obtain ⟨o',es',ep',ho',r'⟩:=hm
  rw [ho] at ho';cases ho'
  exact ⟨_,es',ep',hL,r'⟩) hok hg
theorem Inv.turned {t':Nat} {it:Addr} (I:Inv X pins σ H s) (k:∀ b o,b≠it→s.heap.get? b=some o→h'.get? b=some o) (hn:H it=none) (hL:it≠X.env.locals)
  (h1:it∈X.ex∨X.s₀.heap.objs.size≤it) (h2:∀ x c,X.env.cells.lookup x=some c→c≠it) (h3:∀ p∈X.pn++pins,p.1≠it):Inv X pins σ H { s with heap:=h',toks:=t' }:=by
 have nit:∀ b u,H b=some u→b≠it:=fun b u e z=>by rw [z,hn] at e;cases e
 refine I.step (g':=s.gens) (d':=s.drawn) (ch:=[it]) (fun b hb=>?_) (fun b o _ _ hc e _=>k b o (fun z=>hc (by simp [z])) e) (fun b o _ _ hc e _=>⟨o.slots,k b o (fun z=>hc (by simp [z])) e⟩) (fun _ _ _ _ n=>n)
  (fun b o hc e=>⟨o,k b o (fun z=>hc (by simp [z])) e⟩) (fun _ _ e=>e) (fun _ _ _ e=>e) (fun b ps e=>⟨#[],by rw [e];simp⟩) (fun m hm=>?_) (fun b u e=>?_) I.bare
 ·
  have e:b=it:=by simpa using hb
  subst e
  exact ⟨h1,hL,h2,h3⟩
 ·
  obtain ⟨o,es,ep,ho,r⟩:=hm
  exact ⟨o,es,ep,k _ o (Ne.symm hL) ho,r⟩
 ·
  refine (I.hok b u e).stay (fun c v hc q=>k c v ?_ q) (fun _ q=>q) fun _ _ q=>q
  rcases hc with z | z
  ·
   rw [z];exact nit b u e
  ·
   exact nit c _ z
theorem Inv.tok (I:Inv X pins σ H s) (t:Nat):Inv X pins σ H { s with toks:=t }:=I.un (h':=s.heap) (t':=t) Un.refl I.hok
theorem Inv.kept {t':Nat} (I:Inv X pins σ H s) (k:∀ b u,s.heap.get? b=some u→h'.get? b=some u):Inv X pins σ H { s with heap:=h',toks:=t' }:=I.un (Un.kept k) (I.hok.kept k)
theorem Inv.laid {a:Addr} {o:HO} {t':Nat} (I:Inv X pins σ H s) (k:∀ b u,s.heap.get? b=some u→h'.get? b=some u) (hp:s.heap.objs.size≤a) (new:bE X.prog X.w (upd H a o) h' a o) :
 Inv X pins σ (upd H a o) { s with heap:=h',toks:=t' }:=I.un (Un.laid k hp (I.hok.fresh hp)) (I.hok.laid k hp new)
theorem Inv.write {x e:Addr} {o:HO} {t':Nat} (I:Inv X pins σ H s) (mu:Mut (H x)) (he:e=x∨H e=some (.own x)) (k:∀ b u,b≠e→s.heap.get? b=some u→h'.get? b=some u) (heo:∃ u,h'.get? e=some u)
 (new:bE X.prog X.w (upd H x o) h' x o):Inv X pins σ (upd H x o) { s with heap:=h',toks:=t' }:=I.un (Un.write mu he k heo) (I.hok.write mu he k heo new)
theorem Inv.pins_of {pins':List (Addr×Obj)} (I:Inv X pins σ H s) (h:∀ p∈pins',s.heap.get? p.1=some p.2∧H p.1=none∧p.1≠X.env.locals∧p.1∉X.fs∧∀ v,p.2.data≠.cell v):Inv X pins' σ H s:=
 ⟨I.ok,I.os,I.bare,I.base,I.loc,I.cell,I.free,I.freeC,fun p hp=>(List.mem_append.mp hp).elim (fun z=>I.pin p (List.mem_append_left _ z)) (h p),I.hok,I.len⟩
theorem kc {N:List Str} (hN:N.Nodup) {i j:Nat} {x:Str} (a:N[i]?=some x) (b:N[j]?=some x):i=j:=by
 obtain ⟨h1,e1⟩:=List.getElem?_eq_some_iff.mp a
 obtain ⟨h2,e2⟩:=List.getElem?_eq_some_iff.mp b
 exact (List.getElem_inj hN).mp (e1.trans e2.symm)
theorem gz {M:Model} {A:Around} {E:Value→Shared→Prop} {i:Nat} {x:Str} {v:V} {u:Value} {Q:Unit→Shared→Prop} (I:Inv X pins σ H s) (hN:X.N.Nodup) (hi:X.N[i]?=some x) (hx:Loc X.env.scope x) (r:RelV v u)
  (h:∀ s',Inv X pins (σ.set i (some v)) H s'→(∃ a,Heap.SameBut a s.heap s'.heap∧(a=X.env.locals∨X.env.cells.lookup x=some a))→Q () s') (hf:X.fn x=true∨X.env.scope.names.lookup x=some .local:=by first | exact .inl rfl | exact .inr rfl | assumption):wpAny M A (storeName X.env x u) Q E s:=by
 obtain ⟨m,hn,hl⟩:=id I.loc
 have hcls:(X.env.scope.kind==.class||(X.env.scope.kind==.module&&X.env.locals != X.env.globals))=false:=by rw [I.ok.kind];rfl
 have hiσ:i<σ.length:=by rw [I.len];exact (List.getElem?_eq_some_iff.mp hi).1
 have cne:=I.cne
 have tracked:∀ {a:Addr} {h':Heap},(∃ o,s.heap.get? a=some o∧H a=none)→Heap.SameBut a s.heap h'→HOk X.prog X.w H h':=fun {a h'} ha hs b ob e=>by
  obtain ⟨_,_,hfree⟩:=ha
  refine (I.hok b ob e).stay (fun c w' hc q=>(hs.2 c ?_).trans q) (fun _ q=>q) fun _ _ q=>q
  rintro rfl
  rcases hc with rfl | hc
  ·
   rw [hfree] at e;cases e
  ·
   rw [hfree] at hc;cases hc
 rcases hx with hk | hk
 ·
  refine wpAny_storeName_local hk hn (fun h' hn' hs=>?_) hcls
  obtain ⟨oL,_,_,hoL,_⟩:=id hn
  refine h _ ⟨I.ok,I.os,I.bare,⟨fun b o e n hb hx=>?_,fun b o e n hb hx=>?_,I.base.free,fun b o e hx=>?_,I.base.tups,I.base.frzs,I.base.tbls⟩,⟨_,hn',fun j y v' e1 e2 e3=>?_⟩,fun y c e=>?_,I.free,I.freeC,fun p hp=>?_,tracked ⟨oL,hoL,I.free⟩ hs,by simpa using I.len⟩ ⟨_,hs,.inl rfl⟩
  ·
   exact (hs.2 b (Nat.ne_of_lt (Nat.lt_of_lt_of_le (Heap.lt_size e) I.ok.above))).trans (I.base.keep b o e n hb hx)
  ·
   obtain ⟨sl,e1⟩:=I.base.slot b o e n hb hx
   exact ⟨sl,(hs.2 b (Nat.ne_of_lt (Nat.lt_of_lt_of_le (Heap.lt_size e) I.ok.above))).trans e1⟩
  ·
   obtain ⟨o',e1⟩:=I.base.there b o e hx
   exact ⟨o',(hs.2 b (Nat.ne_of_lt (Nat.lt_of_lt_of_le (Heap.lt_size e) I.ok.above))).trans e1⟩
  ·
   by_cases hj:j=i
   ·
    subst hj
    rw [hi] at e1;cases e1
    rw [List.getElem?_set_self hiσ] at e2
    cases e2
    exact ⟨u,r,.inl ⟨hk,by simp⟩⟩
   ·
    rw [List.getElem?_set_ne (Ne.symm hj)] at e2
    obtain ⟨u',r',q⟩:=hl j y v' e1 e2 e3
    refine ⟨u',r',?_⟩
    rcases q with ⟨k,e⟩ | ⟨k,c,e,z⟩
    ·
     refine .inl ⟨k,?_⟩
     have:y≠x:=fun e=>hj (kc hN e1 (e▸hi))
     simp [this,e]
    ·
     exact .inr ⟨k,c,e,z.sameBut hs (cne y c e)⟩
  ·
   obtain ⟨w',z⟩:=I.cell y c e
   exact ⟨w',z.sameBut hs (cne y c e)⟩
  ·
   obtain ⟨e,n,ne,nf,d⟩:=I.pin p hp
   exact ⟨(hs.2 p.1 ne).trans e,n,ne,nf,d⟩
 ·
  have hfn:X.fn x=true:=by
   rcases hf with z | z
   ·
    exact z
   ·
    rw [z] at hk;cases hk
  obtain ⟨c,hc⟩:=I.ok.has x (.inl hk)
  obtain ⟨w',z⟩:=I.cell x c hc
  refine wpAny_storeName_cell I.ok.kind hk hc z (fun h' hc' hs=>?_)
  obtain ⟨oc,hoc,hocd⟩:=id z
  refine h { s with heap:=h' } ⟨I.ok,I.os,I.bare,⟨fun b o e n hb hx=>?_,fun b o e n hb hx=>?_,I.base.free,fun b o e hx=>?_,I.base.tups,I.base.frzs,I.base.tbls⟩,⟨m,hn.sameBut hs (Ne.symm (cne x c hc)),fun j y v' e1 e2 e3=>?_⟩,fun y c' e=>?_,I.free,I.freeC,fun p hp=>?_,tracked ⟨oc,hoc,I.freeC x c hc⟩ hs,by simpa using I.len⟩ ⟨c,hs,.inr hc⟩
  ·
   exact (hs.2 b (Nat.ne_of_lt (Nat.lt_of_lt_of_le (Heap.lt_size e) (I.ok.cab x c hfn hc)))).trans (I.base.keep b o e n hb hx)
  ·
   obtain ⟨sl,e1⟩:=I.base.slot b o e n hb hx
   exact ⟨sl,(hs.2 b (Nat.ne_of_lt (Nat.lt_of_lt_of_le (Heap.lt_size e) (I.ok.cab x c hfn hc)))).trans e1⟩
  ·
   obtain ⟨o',e1⟩:=I.base.there b o e hx
   exact ⟨o',(hs.2 b (Nat.ne_of_lt (Nat.lt_of_lt_of_le (Heap.lt_size e) (I.ok.cab x c hfn hc)))).trans e1⟩
  ·
   by_cases hj:j=i
   ·
    subst hj
    rw [hi] at e1;cases e1
    rw [List.getElem?_set_self hiσ] at e2
    cases e2
    exact ⟨u,r,.inr ⟨.inl hk,c,hc,hc'⟩⟩
   ·
    rw [List.getElem?_set_ne (Ne.symm hj)] at e2
    obtain ⟨u',r',q⟩:=hl j y v' e1 e2 e3
    refine ⟨u',r',?_⟩
    rcases q with q | ⟨k,c',e,z'⟩
    ·
     exact .inl q
    ·
     refine .inr ⟨k,c',e,z'.sameBut hs ?_⟩
     rintro rfl
     exact hj (kc hN e1 (I.ok.inj _ _ _ e hc▸hi))
  ·
   by_cases hcc:c'=c
   ·
    subst hcc;exact ⟨_,hc'⟩
   ·
    obtain ⟨w2,z2⟩:=I.cell y c' e
    exact ⟨w2,z2.sameBut hs hcc⟩
  ·
   obtain ⟨e,n,ne,nf,d⟩:=I.pin p hp
   refine ⟨(hs.2 p.1 ?_).trans e,n,ne,nf,d⟩
   intro q
   rw [q,hoc] at e
   have q':oc=p.2:=Option.some.inj e
   exact d w' (by rw [←q'];exact hocd)
theorem eM {M:Model} {A:Around} {E:Value→Shared→Prop} {i:Nat} {x:Str} {v:V} {u:Value} {Q:Unit→Shared→Prop} (I:Inv X pins σ H s) (hN:X.N.Nodup) (hi:X.N[i]?=some x) (hx:Loc X.env.scope x) (r:RelV v u)
  (h:∀ s',Inv X pins (σ.set i (some v)) H s'→Q () s') (hf:X.fn x=true∨X.env.scope.names.lookup x=some .local:=by first | exact .inl rfl | exact .inr rfl | assumption):wpAny M A (storeName X.env x u) Q E s:=
 gz I hN hi hx r (fun s' I' _=>h s' I') hf
theorem Inv.call' {s':Shared} {ch:List Addr} (I:Inv X pins σ H s) (ho:s'.os=s.os) (u:Un (frs X.stack) ch H H' s.heap s'.heap) (hok:HOk X.prog X.w H' s'.heap) (hg:AllBare s'.gens)
  (hch:∀ b∈ch,(b∈X.ex∨X.s₀.heap.objs.size≤b)∧b≠X.env.locals∧(∀ x c,X.env.cells.lookup x=some c→c≠b)∧∀ p∈X.pn++pins,p.1≠b):Inv X pins σ H' s':=by
 obtain ⟨h',g',d',t',o'⟩:=s'
 have e:o'=s.os:=ho
 subst e
 exact I.call (g':=g') (t':=t') (d':=d') u hok hg hch
end
abbrev XK:=Value→Option Addr→Hp→Prop
abbrev St:=List (Option V)
abbrev VK:=V→Hp→Prop
abbrev TE:=St→Hp→VK→Prop
abbrev TT:=St→Hp→(Bool→Hp→Prop)→Prop
abbrev TA:=St→Hp→(List V→Hp→Prop)→Prop
structure Ends where
 nx:St→Hp→Prop
 rt:VK
 bk:St→Hp→Prop:=fun _ _=>False
 ct:St→Hp→Prop:=fun _ _=>False
abbrev TS:=Ends→St→Hp→Prop
def EP (X:Cx) (pins:List (Addr×Obj)) (σ:St) (Q:VK) (u:Value) (s':Shared):Prop:=∃ v H',Inv X pins σ H' s'∧RelV v u∧Q v H'
def TP (X:Cx) (pins:List (Addr×Obj)) (σ:St) (Q:Bool→Hp→Prop) (b:Bool) (s':Shared):Prop:=∃ H',Inv X pins σ H' s'∧Q b H'
def AP (X:Cx) (pins:List (Addr×Obj)) (σ:St) (Q:List V→Hp→Prop) (us:List Value) (s':Shared):Prop:=∃ vs H',Inv X pins σ H' s'∧aA vs us∧Q vs H'
def SP (X:Cx) (pins:List (Addr×Obj)) (D:Ends) (f:Flow) (s':Shared):Prop:=
 match f with
 | .next=>∃ σ' H',Inv X pins σ' H' s'∧D.nx σ' H'
 | .brk=>∃ σ' H',Inv X pins σ' H' s'∧D.bk σ' H'
 | .cont=>∃ σ' H',Inv X pins σ' H' s'∧D.ct σ' H'
 | .ret u=>∃ v σ' H',Inv X pins σ' H' s'∧RelV v u∧D.rt v H'
def PE (X:Cx) (e:Expr) (t:TE):Prop:=
 ∀ (pins:List (Addr×Obj)) (s:Shared) (σ:St) (H:Hp) (Q:VK),Inv X pins σ H s→t σ H Q→wpAny (model X.prog X.w) X.A (eval e X.env) (EP X pins σ Q) X.xe s
def PT (X:Cx) (e:Expr) (t:TT):Prop:=
 ∀ (pins:List (Addr×Obj)) (s:Shared) (σ:St) (H:Hp) (Q:Bool→Hp→Prop),Inv X pins σ H s→t σ H Q→wpAny (model X.prog X.w) X.A (isTrue e X.env (eval e X.env)) (TP X pins σ Q) X.xe s
def PW (X:Cx) (e:Expr) (t:TT):Prop:=
 ∀ (whole:Sem Value) (pins:List (Addr×Obj)) (s:Shared) (σ:St) (H:Hp) (Q:Bool→Hp→Prop),Inv X pins σ H s→t σ H Q→wpAny (model X.prog X.w) X.A (isTrue e X.env whole) (TP X pins σ Q) X.xe s
theorem PW.pt {X:Cx} {e:Expr} {t:TT} (h:PW X e t):PT X e t:=h _
def PA (X:Cx) (es:List Expr) (t:TA):Prop:=
 ∀ (pos:Pos) (pins:List (Addr×Obj)) (s:Shared) (σ:St) (H:Hp) (Q:List V→Hp→Prop),Inv X pins σ H s→t σ H Q→wpAny (model X.prog X.w) X.A (spliced (backTo pos (starEach es X.env))) (AP X pins σ Q) X.xe s
def PS (X:Cx) (st:Stmt) (t:TS):Prop:=
 ∀ (pins:List (Addr×Obj)) (s:Shared) (σ:St) (H:Hp) (D:Ends),Inv X pins σ H s→t D σ H→wpAny (model X.prog X.w) X.A (exec st X.env) (SP X pins D) X.xe s
def PSs (X:Cx) (st:List Stmt) (t:TS):Prop:=
 ∀ (pins:List (Addr×Obj)) (s:Shared) (σ:St) (H:Hp) (D:Ends),Inv X pins σ H s→t D σ H→wpAny (model X.prog X.w) X.A (execs st X.env) (SP X pins D) X.xe s
theorem thn {α:Type} {t:Sem α} {Q Q':α→Shared→Prop} {M:Model} {A:Around} {E:Value→Shared→Prop} {s:Shared} (h:wpAny M A t Q E s) (hQ:∀ a s,Q a s→Q' a s):wpAny M A t Q' E s:=wpAny_mono h hQ fun _ _ x=>x
end L2
namespace L2
open PySem PySem.Spec PyProof.Rows
section
variable {X:Cx}
theorem bin {a b:Expr} {ta tb:TE} (ha:PE X a ta) (hb:PE X b tb) {pins:List (Addr×Obj)} {s:Shared} {σ:St} {H:Hp} {R:V→V→Hp→Prop} (I:Inv X pins σ H s) (h:ta σ H fun x H1=>tb σ H1 fun y H2=>R x y H2)
  {α:Type} {Q:α→Shared→Prop} {f:Value→Value→Sem α}
  (hf:∀ v u s2 x y H2,Inv X pins σ H2 s2→RelV x v→RelV y u→R x y H2→wpAny (model X.prog X.w) X.A (f v u) Q X.xe s2) :
  wpAny (model X.prog X.w) X.A (eval a X.env) (fun v s₁=>wpAny (model X.prog X.w) X.A (eval b X.env) (fun u s₂=>wpAny (model X.prog X.w) X.A (f v u) Q X.xe s₂) X.xe s₁) X.xe s:=by
 refine thn (ha pins s σ H _ I h) fun v s1 ⟨x,H1,I1,r1,q1⟩=>?_
 refine thn (hb pins s1 σ H1 _ I1 q1) fun u s2 ⟨y,H2,I2,r2,q2⟩=>?_
 exact hf v u s2 x y H2 I2 r1 r2 q2
def tVar (i:Nat):TE:=fun σ H Q=>∃ v,σ[i]?=some (some v)∧Q v H
def tC (v:V):TE:=fun _ H Q=>Q v H
theorem pe_var {i:Nat} {x:Str} {pos:Pos} (hN:X.N[i]?=some x) (hv:Vis X.env.scope x) (hd:(x==("__debug__" : Str))=false:=by decide) (hcd:(x==("__classdict__" : Str))=false:=by decide):PE X (.Name x pos) (tVar i):=by
 intro pins s σ H Q I h
 obtain ⟨v,e,h⟩:=h
 obtain ⟨m,hn,hl⟩:=I.loc
 obtain ⟨u,r,l⟩:=hl i x v hN e hv
 have fin:EP X pins σ Q u s:=⟨v,H,I,r,h⟩
 rcases l with ⟨hk,hm⟩ | ⟨hk,c,hc,hcell⟩
 ·
  exact wpAny_Name (wpAny_loadName_local I.ok.kind hk hn hm fin) hd
 ·
  rcases hk with hk | hk
  ·
   exact wpAny_Name (wpAny_loadName_cell I.ok.kind hk hc hcell fin) hd
  ·
   exact wpAny_Name (wpAny_loadName_free I.ok.kind hk hc hcell fin hcd) hd
theorem pe_int {i j pos}:PE X (.Constant (.int i) j pos) (tC (.int i)):=fun _ _ _ H _ I h=>wpAny_Constant_int ⟨.int i,H,I.tok _,⟨_,rfl⟩,h⟩
theorem pe_bl {b j pos}:PE X (.Constant (.bool b) j pos) (tC (.bl b)):=fun _ _ _ H _ I h=>Constant_bool ⟨.bl b,H,I,rfl,h⟩
theorem pe_non {j pos}:PE X (.Constant .none j pos) (tC .non):=fun _ _ _ H _ I h=>Constant_none ⟨.non,H,I,rfl,h⟩
theorem iq {x j pos}:PE X (.Constant (.str x) j pos) (tC (.str x)):=fun _ _ _ H _ I h=>Calls.Constant_str ⟨.str x,H,I.tok _,⟨_,rfl⟩,h⟩
def Gl (X:Cx) (x:Str):Prop:=X.env.kindOf x=some .globalImplicit
theorem cK {E:Value→Shared→Prop} {pins:List (Addr×Obj)} {s:Shared} {σ:St} {H:Hp} {x:Str} {u:Value} {pos:Pos} {Q:Value→Shared→Prop} (I:Inv X pins σ H s) (hg:Gl X x) (hm:X.mg x=some u) (h:Q u s)
  (hd:(x==("__debug__" : Str))=false:=by decide):wpAny (model X.prog X.w) X.A (eval (.Name x pos) X.env) Q E s:=
 Calls.Name_function_global I.ok.kind hg (Calls.loadGlobal_global (by rw [I.ok.glob];exact I.mod.glob.keeps I.bk) hm h) hd
theorem jw {E:Value→Shared→Prop} {pins:List (Addr×Obj)} {s:Shared} {σ:St} {H:Hp} {x:Str} {u:Value} {pos:Pos} {Q:Value→Shared→Prop} (I:Inv X pins σ H s) (hg:Gl X x) (hm:X.mg x=none) (hv:bootBuiltins x=some u) (h:Q u s)
  (hn:x≠"__name__":=by decide) (hd:(x==("__debug__" : Str))=false:=by decide):wpAny (model X.prog X.w) X.A (eval (.Name x pos) X.env) Q E s:=by
 obtain ⟨mb,h1,h2⟩:=I.mod.blt
 exact Calls.Name_function_global I.ok.kind hg (Calls.loadGlobal_builtin (by rw [I.ok.glob];exact I.mod.glob.keeps I.bk) hm (by rw [I.ok.blt];exact h1.keeps I.bk) ((h2 x hn).trans hv) h) hd
theorem h8 {x:Str} {v:V} {u:Value} {pos:Pos} (hg:Gl X x) (hm:X.mg x=some u) (r:RelV v u) (hd:(x==("__debug__" : Str))=false:=by decide):PE X (.Name x pos) (tC v):=
 fun _ _ _ H _ I h=>cK I hg hm ⟨v,H,I,r,h⟩ hd
theorem fk {x:Str} {v:V} {u:Value} {pos:Pos} (hg:Gl X x) (hm:X.mg x=none) (hv:bootBuiltins x=some u) (r:RelV v u) (hn:x≠"__name__":=by decide) (hd:(x==("__debug__" : Str))=false:=by decide):PE X (.Name x pos) (tC v):=
 fun _ _ _ H _ I h=>jw I hg hm hv ⟨v,H,I,r,h⟩ hn hd
variable {a b:Expr} {ta tb:TE} {pos:Pos}
def PC (X:Cx) (op:CmpOp) (a b:Expr) (t:TE):Prop:=
 ∀ (pins:List (Addr×Obj)) (s:Shared) (σ:St) (H:Hp) (Q:VK),Inv X pins σ H s→t σ H Q→
  wpAny (model X.prog X.w) X.A (eval a X.env) (fun v s₁=>wpAny (model X.prog X.w) X.A (eval b X.env) (fun u s₂=>wpAny (model X.prog X.w) X.A (compareOp op v u) (EP X pins σ Q) X.xe s₂) X.xe s₁) X.xe s
def tB (t:TE):TT:=fun σ H Q=>t σ H fun x H1=>∃ c,x=.bl c∧Q c H1
theorem pt_cmp {op:CmpOp} {t:TE} (h:PC X op a b t) (h1:behindInMarks op b=false:=by first | exact nobehind _ (by decide) (by decide) | rfl):PT X (.Compare a [op] [b] pos) (tB t):=by
 intro pins s σ H Q I hw
 refine wpAny_isTrue_Compare1 (thn (h pins s σ H _ I hw) fun v s1 h1=>thn h1 fun u s2 h2=>thn h2 fun c s3 ⟨x,H1,I1,r1,q1⟩=>?_) h1
 obtain ⟨d,rfl,q⟩:=q1
 cases r1
 exact wpAny_truthy_bool ⟨H1,I1,q⟩
theorem pt_val {e:Expr} {t:TE} (h:PE X e t) (he:∀ whole,isTrue e X.env whole=(do let v ←whole;standAt e.pos;holding [v] (truthy v)):=by intro _;rfl):PT X e (tB t):=by
 intro pins s σ H Q I hw
 refine isTrue_plain (thn (h pins s σ H _ I hw) fun v s1 ⟨x,H1,I1,r1,q1⟩=>?_) (he _)
 obtain ⟨d,rfl,q⟩:=q1
 cases r1
 exact wpAny_truthy_bool ⟨H1,I1,q⟩
variable {tA tB':TT} {rest:List Expr}
def tAnd (t u:TT):TT:=fun σ H Q=>t σ H fun c H1=>if c=true then u σ H1 Q else Q false H1
def tOr (t u:TT):TT:=fun σ H Q=>t σ H fun c H1=>if c=true then Q true H1 else u σ H1 Q
def tNot (t:TT):TT:=fun σ H Q=>t σ H fun c H1=>Q (!c) H1
theorem pw_and1 (ha:PT X a tA):PW X (.BoolOp .And [a] pos) tA:=by
 intro wh pins s σ H Q I h
 refine isTrue_and (thn (ha pins s σ H Q I h) fun c s1 e=>?_)
 cases c with
 | true=>exact isTrue_and_nil e
 | false=>exact e
theorem pw_or1 (ha:PT X a tA):PW X (.BoolOp .Or [a] pos) tA:=by
 intro wh pins s σ H Q I h
 refine isTrue_or (thn (ha pins s σ H Q I h) fun c s1 e=>?_)
 cases c with
 | false=>exact isTrue_or_nil e
 | true=>exact e
theorem pw_and (ha:PT X a tA) (hb:PW X (.BoolOp .And (b::rest) pos) tB'):PW X (.BoolOp .And (a::b::rest) pos) (tAnd tA tB'):=by
 intro wh pins s σ H Q I h
 refine isTrue_and (thn (ha pins s σ H _ I h) fun c s1 ⟨H1,I1,q1⟩=>?_)
 cases c with
 | true=>exact hb wh pins s1 σ H1 Q I1 q1
 | false=>exact ⟨H1,I1,q1⟩
theorem pw_or (ha:PT X a tA) (hb:PW X (.BoolOp .Or (b::rest) pos) tB'):PW X (.BoolOp .Or (a::b::rest) pos) (tOr tA tB'):=by
 intro wh pins s σ H Q I h
 refine isTrue_or (thn (ha pins s σ H _ I h) fun c s1 ⟨H1,I1,q1⟩=>?_)
 cases c with
 | true=>exact ⟨H1,I1,q1⟩
 | false=>exact hb wh pins s1 σ H1 Q I1 q1
theorem pt_not (ha:PT X a tA):PT X (.UnaryOp .Not a pos) (tNot tA):=by
 intro pins s σ H Q I h
 exact isTrue_not (ha pins s σ H (fun c H1=>Q (!c) H1) I h)
def tAndV (ta tb:TE):TE:=fun σ H Q=>ta σ H fun x H1=>∃ c,x=.bl c∧if c=true then tb σ H1 Q else Q (.bl false) H1
def tNotV (ta:TE):TE:=fun σ H Q=>ta σ H fun x H1=>∃ c,x=.bl c∧Q (.bl (!c)) H1
theorem pe_one {op} {t:TE} (h:PE X a t):PE X (.BoolOp op [a] pos) t:=fun pins s σ H Q I hw=>BoolOp_one (h pins s σ H Q I hw)
theorem pe_and (ha:PE X a ta) (hb:PE X (.BoolOp .And (b::rest) pos) tb):PE X (.BoolOp .And (a::b::rest) pos) (tAndV ta tb):=by
 intro pins s σ H Q I h
 refine BoolOp_and (thn (ha pins s σ H _ I h) fun v s1 ⟨x,H1,I1,r1,q1⟩=>?_)
 obtain ⟨c,rfl,q1⟩:=q1
 cases r1
 refine wpAny_truthy_bool ?_
 cases c with
 | true=>exact hb pins s1 σ H1 Q I1 q1
 | false=>exact ⟨.bl false,H1,I1,rfl,q1⟩
theorem pe_not (ha:PE X a ta):PE X (.UnaryOp .Not a pos) (tNotV ta):=by
 intro pins s σ H Q I h
 refine UnaryOp_ (thn (ha pins s σ H _ I h) fun v s1 ⟨x,H1,I1,r1,q1⟩=>?_)
 obtain ⟨c,rfl,q1⟩:=q1
 cases r1
 exact not_of (wpAny_truthy_bool ⟨.bl (!c),H1,I1,rfl,q1⟩)
end
end L2
namespace L2
open PySem PySem.Spec PyProof.Rows
def SqL (K:Frag) (H:Hp) (a:Addr) (xs:List V):Prop:=
 Rd H a (.lst xs)∨
  ∃ (o:Obj) (its:Array Value) (n:Nat),K.lookup a=some o∧o.cls=.type "list"∧o.dict=none∧o.data=.seq its n∧its.size≤sizeLine∧aA xs its.toList
def SqT (K:Frag) (H:Hp) (a:Addr) (xs:List V):Prop:=
 Rd H a (.tup xs)∨
  ∃ (o:Obj) (its:Array Value) (n:Nat),K.lookup a=some o∧o.cls=.type "tuple"∧o.data=.seq its n∧its.size≤sizeLine∧aA xs its.toList
def absV:Value→Option V
 | .none=>some .non
 | .bool b=>some (.bl b)
 | .int i _=>some (.int i)
 | .str x _=>some (.str x)
 | .bytes b _=>some (.byt b)
 | .float b _=>some (.flt b)
 | .ref a=>some (.ref a)
 | .type n=>some (.ty n)
 | _=>none
theorem RelV.abs {x:V} {u:Value} (r:RelV x u):absV u=some x:=by
 cases x with
 | non=>cases r;rfl
 | bl _=>cases r;rfl
 | int _=>obtain ⟨t,rfl⟩:=r;rfl
 | str _=>obtain ⟨t,rfl⟩:=r;rfl
 | byt _=>obtain ⟨t,rfl⟩:=r;rfl
 | flt _=>obtain ⟨t,rfl⟩:=r;rfl
 | ref _=>cases r;rfl
 | ty _=>cases r;rfl
theorem RelV.inj {x y:V} {u:Value} (r:RelV x u) (q:RelV y u):x=y:=Option.some.inj (r.abs.symm.trans q.abs)
theorem aA.inj:∀ {xs ys:List V} {us:List Value},aA xs us→aA ys us→xs=ys
 | _,_,_,.nil,.nil=>rfl
 | _,_,_,.cons r t,.cons r' t'=>by rw [r.inj r',aA.inj t t']
section
variable {X:Cx} {pins:List (Addr×Obj)} {σ:St} {H:Hp} {s:Shared} {a:Addr} {xs ys:List V}
theorem SqL.of {K:Frag} (h:H a=some (.lst xs)):SqL K H a xs:=.inl (.inl h)
theorem SqT.of {K:Frag} (h:H a=some (.tup xs)):SqT K H a xs:=.inl (.inl h)
theorem Inv.list (I:Inv X pins σ H s) (h:SqL X.K H a xs):∃ its:List Value,aA xs its∧PlainL s.heap a its.toArray∧xs.length≤sizeLine:=by
 rcases h with h | ⟨o,its,n,hk,hc,hd,hs,hz,r⟩
 ·
  obtain ⟨z,its,n,r,e⟩:=h.ok I.hok
  exact ⟨its,r,⟨_,n,e,rfl,rfl,rfl⟩,z⟩
 ·
  refine ⟨its.toList,r,⟨o,n,I.kIn a o hk,hc,hd,by simpa using hs⟩,?_⟩
  have e:=r.length
  simp only [Array.length_toList] at e
  omega
theorem Inv.tuple (I:Inv X pins σ H s) (h:SqT X.K H a xs):∃ its:List Value,aA xs its∧IsTup s.heap a its.toArray∧xs.length≤sizeLine:=by
 rcases h with h | ⟨o,its,n,hk,hc,hs,hz,r⟩
 ·
  obtain ⟨z,its,r,p⟩:=h.ok I.hok
  exact ⟨its,r,p,z⟩
 ·
  refine ⟨its.toList,r,⟨o,I.kIn a o hk,hc,n,by simpa using hs⟩,?_⟩
  have e:=r.length
  simp only [Array.length_toList] at e
  omega
theorem Inv.list_inj (I:Inv X pins σ H s) (h:SqL X.K H a xs) (h':SqL X.K H a ys):xs=ys:=by
 obtain ⟨its,r,⟨o,n,e,_,_,d⟩,_⟩:=I.list h
 obtain ⟨its',r',⟨o',n',e',_,_,d'⟩,_⟩:=I.list h'
 rw [e] at e';cases e'
 rw [d] at d'
 injection d' with d1 _
 have:its=its':=by simpa using congrArg Array.toList d1
 subst this
 exact r.inj r'
theorem Inv.tuple_inj (I:Inv X pins σ H s) (h:SqT X.K H a xs) (h':SqT X.K H a ys):xs=ys:=by
 obtain ⟨its,r,⟨o,e,_,n,d⟩,_⟩:=I.tuple h
 obtain ⟨its',r',⟨o',e',_,n',d'⟩,_⟩:=I.tuple h'
 rw [e] at e';cases e'
 rw [d] at d'
 injection d' with d1 _
 have:its=its':=by simpa using congrArg Array.toList d1
 subst this
 exact r.inj r'
end
abbrev Cx.wish (X:Cx) (E:Value→Shared→Prop):Cx:={ X with xe:=E }
abbrev Cx.nox (X:Cx):Cx:=X.wish fun _ _=>False
theorem Cx.Ok.wish {X:Cx} (ok:X.Ok) (E:Value→Shared→Prop):(X.wish E).Ok:=
 ⟨ok.mod,ok.kind,ok.glob,ok.blt,ok.above,ok.inj,ok.has,ok.cab,ok.hd,ok.frames,ok.stk,ok.exf,ok.bs,ok.bsz,ok.noex,ok.exfs,ok.funs,ok.frf⟩
theorem Cx.Ok.unwish {X:Cx} {E:Value→Shared→Prop} (ok:(X.wish E).Ok):X.Ok:=
 ⟨ok.mod,ok.kind,ok.glob,ok.blt,ok.above,ok.inj,ok.has,ok.cab,ok.hd,ok.frames,ok.stk,ok.exf,ok.bs,ok.bsz,ok.noex,ok.exfs,ok.funs,ok.frf⟩
section
variable {X:Cx} {pins:List (Addr×Obj)} {σ:St} {H:Hp} {s:Shared} {E:Value→Shared→Prop}
theorem Inv.wish (I:Inv X pins σ H s) (E:Value→Shared→Prop):Inv (X.wish E) pins σ H s:=⟨I.ok.wish E,I.os,I.bare,I.base,I.loc,I.cell,I.free,I.freeC,I.pin,I.hok,I.len⟩
theorem Inv.unwish (I:Inv (X.wish E) pins σ H s):Inv X pins σ H s:=⟨I.ok.unwish,I.os,I.bare,I.base,I.loc,I.cell,I.free,I.freeC,I.pin,I.hok,I.len⟩
theorem SP.unwish {D:Ends} {f:Flow} {s':Shared} (h:SP (X.wish E) pins D f s'):SP X pins D f s':=by
 cases f with
 | next=>obtain ⟨σ',H',I,q⟩:=h;exact ⟨σ',H',I.unwish,q⟩
 | brk=>obtain ⟨σ',H',I,q⟩:=h;exact ⟨σ',H',I.unwish,q⟩
 | cont=>obtain ⟨σ',H',I,q⟩:=h;exact ⟨σ',H',I.unwish,q⟩
 | ret u=>obtain ⟨v,σ',H',I,r,q⟩:=h;exact ⟨v,σ',H',I.unwish,r,q⟩
theorem PSs.nox {st:List Stmt} {t:TS} (h:PSs X.nox st t):PSs X st t:=fun pins s σ H D I hw=>
 wpAny_mono (h pins s σ H D (I.wish _) hw) (fun _ _ q=>q.unwish) fun _ _ z=>False.elim z
end
section
variable {X:Cx} {st:Stmt} {rest:List Stmt} {t u:TS} {e:Expr} {te:TE} {pos:Pos}
def tNext:TS:=fun D σ H=>D.nx σ H
def tSeq (t u:TS):TS:=fun D σ H=>t { D with nx:=u D } σ H
theorem pss_nil:PSs X [] tNext:=fun _ _ σ H _ I h=>wpAny_execs_nil ⟨σ,H,I,h⟩
theorem kd (h1:PS X st t) (h2:PSs X rest u):PSs X (st::rest) (tSeq t u):=by
 intro pins s σ H D I h
 refine wpAny_execs_cons (thn (h1 pins s σ H { D with nx:=u D } I h) fun f s1 q=>?_)
 cases f with
 | next=>
  obtain ⟨σ',H',I',q⟩:=q
  exact h2 pins s1 σ' H' D I' q
 | ret v=>exact q
 | brk=>exact q
 | cont=>exact q
theorem pss_one (h1:PS X st t):PSs X [st] t:=by
 intro pins s σ H D I h
 refine wpAny_execs_cons (thn (h1 pins s σ H D I h) fun f s1 q=>?_)
 cases f with
 | next=>exact wpAny_execs_nil q
 | ret v=>exact q
 | brk=>exact q
 | cont=>exact q
theorem Inv.quiet {pins:List (Addr×Obj)} {σ:St} {H:Hp} {s:Shared} (I:Inv X pins σ H s):interactive X.env=false:=by simp [interactive,I.ok.kind]
def tDrop (te:TE):TS:=fun D σ H=>te σ H fun _ H1=>D.nx σ H1
theorem ps_expr (he:PE X e te) (hs:swapsWith e none pos.line X.env=pure false:=by rfl):PS X (.Expr e pos) (tDrop te):=by
 intro pins s σ H D I h
 exact wpAny_Expr_any (thn (he pins s σ H _ I h) fun v s1 ⟨x,H1,I1,r1,q1⟩=>⟨σ,H1,I1,q1⟩) I.quiet hs
def tRet (te:TE):TS:=fun D σ H=>te σ H D.rt
theorem jx (he:PE X e te):PS X (.Return (some e) pos) (tRet te):=by
 intro pins s σ H D I h
 exact wpAny_Return_some (thn (he pins s σ H _ I h) fun v s1 ⟨x,H1,I1,r1,q1⟩=>⟨x,σ,H1,I1,r1,q1⟩)
def tIfS (c:TT) (t u:TS):TS:=fun D σ H=>c σ H fun b H1=>if b=true then t D σ H1 else u D σ H1
theorem ps_if {c:Expr} {a b:List Stmt} {tc:TT} (hc:PT X c tc) (ha:PSs X a t) (hb:PSs X b u):PS X (.If c a b pos) (tIfS tc t u):=by
 intro pins s σ H D I h
 refine wpAny_If (thn (hc pins s σ H _ I h) fun d s1 ⟨H1,I1,q1⟩=>?_)
 cases d with
 | true=>exact ha pins s1 σ H1 D I1 q1
 | false=>exact hb pins s1 σ H1 D I1 q1
end
abbrev TG:=V→St→Hp→(St→Hp→Prop)→Prop
abbrev TGs:=List V→St→Hp→(St→Hp→Prop)→Prop
def PG (X:Cx) (target:Expr) (t:TG):Prop:=
 ∀ (pins:List (Addr×Obj)) (s:Shared) (σ:St) (H:Hp) (v:V) (u:Value) (Q:St→Hp→Prop),Inv X pins σ H s→RelV v u→t v σ H Q→
  wpAny (model X.prog X.w) X.A (assign target X.env u) (fun _ s'=>∃ σ' H',Inv X pins σ' H' s'∧Q σ' H') X.xe s
def PGs (X:Cx) (ts:List Expr) (t:TGs):Prop:=
 ∀ (pins:List (Addr×Obj)) (s:Shared) (σ:St) (H:Hp) (vs:List V) (us:List Value) (Q:St→Hp→Prop),Inv X pins σ H s→aA vs us→t vs σ H Q→
  wpAny (model X.prog X.w) X.A (assignInOrder ((assignEach ts X.env).map (·.2)) us) (fun _ s'=>∃ σ' H',Inv X pins σ' H' s'∧Q σ' H') X.xe s
section
variable {X:Cx} {pos:Pos}
def i8 (i:Nat):TG:=fun v σ H Q=>Q (σ.set i (some v)) H
theorem pg_name {i:Nat} {x:Str} (hN:X.N.Nodup) (hi:X.N[i]?=some x) (hx:Loc X.env.scope x) (hf:X.fn x=true∨X.env.scope.names.lookup x=some .local:=by first | exact .inl rfl | exact .inr rfl | assumption):PG X (.Name x pos) (i8 i):=by
 intro pins s σ H v u Q I r h
 exact wpAny_assign_Name (eM I hN hi hx r (fun s' I'=>⟨_,H,I',h⟩) hf)
def gNil:TGs:=fun vs σ H Q=>vs=[]∧Q σ H
def gCons (t:TG) (u:TGs):TGs:=fun vs σ H Q=>∃ v r,vs=v::r∧t v σ H fun σ' H'=>u r σ' H' Q
theorem pgs_nil:PGs X [] gNil:=by
 intro pins s σ H vs us Q I r h
 obtain ⟨e,h⟩:=h
 subst e
 cases r
 exact assignInOrder_nil ⟨σ,H,I,h⟩
theorem pgs_cons {e:Expr} {es:List Expr} {t:TG} {u:TGs} (h1:PG X e t) (h2:PGs X es u)
  (hs:(assignEach (e::es) X.env).map (·.2)=assign e X.env::(assignEach es X.env).map (·.2):=by rfl):PGs X (e::es) (gCons t u):=by
 intro pins s σ H vs us Q I r h
 obtain ⟨v,vr,e1,h⟩:=h
 subst e1
 cases r with
 | cons r rr=>
  rw [hs]
  refine assignInOrder_cons (thn (h1 pins s σ H _ _ _ I r h) fun _ s1 ⟨σ1,H1,I1,q1⟩=>?_)
  exact h2 pins s1 σ1 H1 _ _ Q I1 rr q1
def gTup (K:Frag) (n:Nat) (t:TGs):TG:=fun v σ H Q=>∃ a xs,v=.ref a∧SqT K H a xs∧xs.length=n∧t xs σ H Q
theorem pg_tup {es:List Expr} {k:Nat} {t:TGs} {n:Nat} (hc:X.calm=true) (h:PGs X es t)
  (hn:(assignEach es X.env).length=n:=by rfl) (hst:(assignEach es X.env).findIdx? (·.1)=none:=by rfl):PG X (.Tuple es k pos) (gTup X.K n t):=by
 intro pins s σ H v u Q I r hw
 obtain ⟨a,xs,e1,hq,hl,hw⟩:=hw
 subst e1
 cases r
 obtain ⟨its,rv,ht,hz⟩:=I.tuple hq
 refine assign_Tuple_tuple (I.ok.hd hc) ht (by simp [hn,←hl,rv.length]) hst fun h' hx=>?_
 have I1:Inv X pins σ H { s with heap:=h' }:=I.kept (t':=s.toks) fun b o e=>hx b o (Nat.ne_of_lt (Heap.lt_size e)) e
 exact h pins _ σ H xs _ Q I1 (by simpa using rv) hw
def tAsg (te:TE) (g:TG):TS:=fun D σ H=>te σ H fun x H1=>g x σ H1 D.nx
theorem ps_set {i:Nat} {x:Str} {e:Expr} {te:TE} {pos':Pos} (hN:X.N.Nodup) (hi:X.N[i]?=some x) (hx:Loc X.env.scope x) (he:PE X e te) (hs:swapsWith e (some (.Name x pos')) pos.line X.env=pure false:=by rfl) (hf:X.fn x=true∨X.env.scope.names.lookup x=some .local:=by first | exact .inl rfl | exact .inr rfl | assumption) :
  PS X (.Assign [.Name x pos'] e pos) (tAsg te (i8 i)):=by
 intro pins s σ H D I h
 refine wpAny_Assign_Name (thn (he pins s σ H _ I h) fun v s1 ⟨y,H1,I1,r1,q1⟩=>?_) hs
 exact eM I1 hN hi hx r1 (fun s2 I2=>⟨_,H1,I2,q1⟩) hf
def tPar (i j:Nat) (ta:TA):TS:=fun D σ H=>ta σ H fun vs H1=>∃ v w,vs=[v,w]∧D.nx ((σ.set i (some v)).set j (some w)) H1
theorem ps_par {i j:Nat} {x y:Str} {a b:Expr} {ta:TA} {px py pt:Pos} {kt k2 pt2} (hc:X.calm=true) (hN:X.N.Nodup) (hi:X.N[i]?=some x) (hj:X.N[j]?=some y) (hij:i≠j)
  (hx:X.env.scope.names.lookup x=some .local) (hy:X.env.scope.names.lookup y=some .local) (ha:PA X [a,b] ta)
  (hw:swappedStores [.Tuple [.Name x px,.Name y py] kt pt] (.Tuple [a,b] k2 pt2) X.env=pure (some [x,y]))
  (hs:swapsWithSole [.Tuple [.Name x px,.Name y py] kt pt] (.Tuple [a,b] k2 pt2) pos.line X.env=pure false:=by rfl) :
  PS X (.Assign [.Tuple [.Name x px,.Name y py] kt pt] (.Tuple [a,b] k2 pt2) pos) (tPar i j ta):=by
 intro pins s σ H D I h
 rw [exec_Assign_arm]
 refine wpAny_bind (wpAny_standAt ?_)
 rw [hs]
 refine wpAny_bind (wpAny_pure ?_)
 rw [if_neg (by decide)]
 refine wpAny_bind (Tuple_ (thn (ha _ pins s σ H _ I h) fun us s1 ⟨vs,H1,I1,r1,q1⟩=>?_))
 obtain ⟨v,w,e1,q1⟩:=q1
 subst e1
 obtain ⟨u1,u2,rfl,rv,rw'⟩ : ∃ u1 u2,us=[u1,u2]∧RelV v u1∧RelV w u2:=by
  cases r1 with
  | cons p q=>
   cases q with
   | cons p' q'=>
    cases q'
    exact ⟨_,_,rfl,p,p'⟩
 refine wpAny_newObj_type ?_ (by show 2≤sizeLine;decide)
 have I2:Inv X pins σ H1 { s1 with heap:=s1.heap.push { cls:=.type "tuple",data:=.seq [u1,u2].toArray } }:=I1.kept (t':=s1.toks) fun b o e=>Heap.get?_push_of_some _ e
 rw [hw]
 refine wpAny_bind (wpAny_pure ?_)
 show wpAny (model X.prog X.w) X.A (do rule "assign.swapped-stores";let items ←unpackItems (.ref s1.heap.objs.size) 2 none;assignInOrder [fun v=>bindName X.env y v,fun v=>bindName X.env x v] items.reverse;pure Flow.next) _ _ _
 refine wpAny_bind (wpAny_rule (wpAny_bind (unpackItems_tuple (items:=#[u1,u2]) (I.ok.hd hc) (IsTup.new s1.heap _) fun h' hx'=>?_)))
 have I3:=I2.kept (h':=h') (t':=s1.toks) fun b o e=>hx' b o (Nat.ne_of_lt (Heap.lt_size e)) e
 show wpAny _ _ (assignInOrder [fun v=>bindName X.env y v,fun v=>bindName X.env x v] [u2,u1] >>= fun _=>pure Flow.next) _ _ _
 refine wpAny_bind (assignInOrder_cons (wpAny_bindName (eM I3 hN hj (.inl hy) rw' (fun s2 I4=>?_) (.inr hy))))
 refine assignInOrder_cons (wpAny_bindName (eM I4 hN hi (.inl hx) rv (fun s3 I5=>assignInOrder_nil (wpAny_pure ?_)) (.inr hx)))
 rw [List.set_comm _ _ (Ne.symm hij)] at I5
 exact ⟨_,H1,I5,q1⟩
end
structure It where
 go:Nat→Hp→Prop
 yld:Nat→Hp→V→Hp→Prop
 stop:Nat→Hp→Prop
def hJ (X:Cx) (pins:List (Addr×Obj)) (H:Hp) (b:Addr):Prop:=
 H b=none∧b≠X.env.locals∧b∉X.fs∧(b∈X.ex∨X.s₀.heap.objs.size≤b)∧(∀ x c,X.env.cells.lookup x=some c→c≠b)∧∀ p∈X.pn++pins,p.1≠b
theorem Inv.fpOk {X:Cx} {pins:List (Addr×Obj)} {σ:St} {H H':Hp} {s:Shared} {b:Addr} (I:Inv X pins σ H s) (hb:s.heap.objs.size≤b) (hn:H' b=none):hJ X pins H' b:=by
 refine ⟨hn,Nat.ne_of_gt (Nat.lt_of_lt_of_le I.lt hb),I.nofs hb,.inr (Nat.le_trans I.sz hb),fun x c e z=>?_,fun p hp z=>?_⟩
 ·
  obtain ⟨v,q⟩:=I.cell x c e
  exact absurd (Nat.lt_of_lt_of_le q.lt (by rw [z];exact hb)) (Nat.lt_irrefl _)
 ·
  exact absurd (Nat.lt_of_lt_of_le (Heap.lt_size (I.pin p hp).1) (by rw [z];exact hb)) (Nat.lt_irrefl _)
structure Turn (P:Program) (w:World) (K:Frag) (tg:Expr) (J:It) (fp:List Addr) (it:Addr) (tn:Nat→Heap→Prop):Prop where
 mem:it∈fp
 obj:∀ i h,tn i h→∀ b∈fp,∃ o,h.get? b=some o∧∀ v,o.data≠.cell v
 keep:∀ i h h',tn i h→(∀ b∈fp,∀ o,h.get? b=some o→h'.get? b=some o)→tn i h'
 item:∀ (X:Cx),X.prog=P→X.w=w→X.K=K→X.calm=true→∀ (i:Nat) (pins:List (Addr×Obj)) (s:Shared) (σ:St) (H:Hp) (E:Value→Shared→Prop),Inv X pins σ H s→(∀ b∈fp,hJ X pins H b)→tn i s.heap→J.go i H→
  wpAny (model P w) X.A (pyNext (.ref it)) (fun r s1=>∃ u,r=some u∧
   wpAny (model P w) X.A (letOwnedTupleGo tg (.ref it) u) (fun _ s2=>∃ x H',Inv X pins σ H' s2∧RelV x u∧J.yld i H x H'∧tn (i+1) s2.heap∧∀ b∈fp,H' b=none) E s1) E s
 done:∀ (X:Cx),X.prog=P→X.w=w→X.K=K→X.calm=true→∀ (i:Nat) (pins:List (Addr×Obj)) (s:Shared) (σ:St) (H:Hp) (E:Value→Shared→Prop),Inv X pins σ H s→(∀ b∈fp,hJ X pins H b)→tn i s.heap→J.stop i H→
  wpAny (model P w) X.A (pyNext (.ref it)) (fun r s1=>r=none∧Inv X pins σ H s1) E s
 self:∀ (A:Around) (i:Nat) (s:Shared) (Q:Value→Shared→Prop) (E:Value→Shared→Prop),tn i s.heap→Q (.ref it) s→wpAny (model P w) A (pyIter (.ref it)) Q E s
abbrev TI:=St→Hp→(It→Hp→Prop)→Prop
def PIE (X:Cx) (pins:List (Addr×Obj)) (σ:St) (tg:Expr) (R:It→Hp→Prop) (itv:Value) (s2:Shared):Prop:=
 ∃ (it:Addr) (fp:List Addr) (tn:Nat→Heap→Prop) (J:It) (H':Hp),itv=.ref it∧Inv X pins σ H' s2∧Turn X.prog X.w X.K tg J fp it tn∧tn 0 s2.heap∧(∀ b∈fp,hJ X pins H' b)∧R J H'
def PI (X:Cx) (tg iter:Expr) (wi:TI):Prop:=
 ∀ (pins:List (Addr×Obj)) (s:Shared) (σ:St) (H:Hp) (R:It→Hp→Prop),Inv X pins σ H s→wi σ H R→
  wpAny (model X.prog X.w) X.A (eval iter X.env) (fun v s1=>wpAny (model X.prog X.w) X.A (pyIter v) (PIE X pins σ tg R) X.xe s1) X.xe s
theorem go_of {M:Model} {A:Around} {E:Value→Shared→Prop} {s:Shared} {tg:Expr} {it:Addr} {u:Value} {o:Obj} {n:String} {vs:Array Value} {Q:Unit→Shared→Prop} (ho:s.heap.get? it=some o) (hc:o.cls=.type n) (hd:o.data=.fields vs)
    (hn:["enumerate", "zip", "dict_itemiterator", "dict_reverseitemiterator", "odict_iterator", "itertools.zip_longest", "itertools.pairwise"].contains n=false) (hQ:Q () s):wpAny M A (letOwnedTupleGo tg (.ref it) u) Q E s:=by
  unfold letOwnedTupleGo
  cases tg <;> first
    | exact wpAny_pure hQ
    | (cases u <;> first
        | exact wpAny_pure hQ
        | (refine wpAny_bind (wpAny_load ho ?_)
           rw [hc,hd]
           show wpAny M A (if (["enumerate", "zip", "dict_itemiterator", "dict_reverseitemiterator", "odict_iterator", "itertools.zip_longest", "itertools.pairwise"].contains n&&vs[0]?==some (rawInt _))=true then _ else _) Q E s
           rw [if_neg (by intro h;rw [hn,Bool.false_and] at h;cases h)]
           exact wpAny_pure hQ))
def Itl (K:Frag) (a:Addr):It:=
 ⟨fun i H=>∃ xs x,SqL K H a xs∧xs[i]?=some x,fun i H x H'=>H'=H∧∀ xs,SqL K H a xs→xs[i]?=some x,fun i H=>∃ xs,SqL K H a xs∧xs.length≤i⟩
def Itt (K:Frag) (a:Addr):It:=
 ⟨fun i H=>∃ xs x,SqT K H a xs∧xs[i]?=some x,fun i H x H'=>H'=H∧∀ xs,SqT K H a xs→xs[i]?=some x,fun i H=>∃ xs,SqT K H a xs∧xs.length≤i⟩
def Itr (lo:Int) (n:Nat):It:=⟨fun i _=>i<n,fun i H x H'=>H'=H∧x=.int (lo+i),fun i _=>n≤i⟩
theorem turn_list {P:Program} {w:World} {K:Frag} {tg:Expr} (a it:Addr):Turn P w K tg (Itl K a) [it] it (fun i h=>h.IsListIter it a i) where
 mem:=by simp
 obj:=fun i h st b hb=>by
  have e:b=it:=by simpa using hb
  subst e
  obtain ⟨o,e,c,d⟩:=st
  exact ⟨o,e,fun v z=>by rw [d] at z;cases z⟩
 keep:=fun i h h' st k=>st.at fun o e=>k it (by simp) o e
 item:=by
  intro X hP hw hK hc i pins s σ H E I hf st hg
  subst hP hw hK
  obtain ⟨xs,x,hq,hx⟩:=hg
  obtain ⟨its,rv,p,hz⟩:=I.list hq
  obtain ⟨u,hu,ru⟩:=rv.get hx
  obtain ⟨f0,f1,f2,f3,f4,f5⟩:=hf it (by simp)
  refine wpAny_pyNext_list_item st p.isList (x:=u) (by simpa using hu) fun h' st' sb=>?_
  have I1:Inv X pins σ H { s with heap:=h' }:=I.turned (t':=s.toks) (fun b o hb e=>(sb.2 b hb).trans e) f0 f1 f3 f4 f5
  obtain ⟨o,e,c,d⟩:=id st'
  exact ⟨u,rfl,go_of (s:={ s with heap:=h' }) e c d (by decide) ⟨x,H,I1,ru,⟨rfl,fun ys hy=>by rw [I.list_inj hy hq];exact hx⟩,st',fun b hb=>(hf b hb).1⟩⟩
 done:=by
  intro X hP hw hK hc i pins s σ H E I hf st hg
  subst hP hw hK
  obtain ⟨xs,hq,hx⟩:=hg
  obtain ⟨its,rv,p,hz⟩:=I.list hq
  obtain ⟨f0,f1,f2,f3,f4,f5⟩:=hf it (by simp)
  have hl:=rv.length
  exact wpAny_pyNext_list_end (I.ok.hd hc) st p.isList (by simp;omega) fun h' eb=>⟨rfl,I.turned (t':=s.toks) (fun b o hb e=>eb b o hb e) f0 f1 f3 f4 f5⟩
 self:=fun _ _ _ _ _ st h=>wpAny_pyIter_listiter st h
theorem k9 {P:Program} {w:World} {K:Frag} {tg:Expr} (a it:Addr):Turn P w K tg (Itt K a) [it] it (fun i h=>h.IsTupleIter it a i) where
 mem:=by simp
 obj:=fun i h st b hb=>by
  have e:b=it:=by simpa using hb
  subst e
  obtain ⟨o,e,c,d⟩:=st
  exact ⟨o,e,fun v z=>by rw [d] at z;cases z⟩
 keep:=fun i h h' st k=>st.at fun o e=>k it (by simp) o e
 item:=by
  intro X hP hw hK hc i pins s σ H E I hf st hg
  subst hP hw hK
  obtain ⟨xs,x,hq,hx⟩:=hg
  obtain ⟨its,rv,p,hz⟩:=I.tuple hq
  obtain ⟨u,hu,ru⟩:=rv.get hx
  obtain ⟨f0,f1,f2,f3,f4,f5⟩:=hf it (by simp)
  refine wpAny_pyNext_tuple_item st (show s.heap.IsTuple a its.toArray from p) (x:=u) (by simpa using hu) fun h' st' sb=>?_
  have I1:Inv X pins σ H { s with heap:=h' }:=I.turned (t':=s.toks) (fun b o hb e=>(sb.2 b hb).trans e) f0 f1 f3 f4 f5
  obtain ⟨o,e,c,d⟩:=id st'
  exact ⟨u,rfl,go_of (s:={ s with heap:=h' }) e c d (by decide) ⟨x,H,I1,ru,⟨rfl,fun ys hy=>by rw [I.tuple_inj hy hq];exact hx⟩,st',fun b hb=>(hf b hb).1⟩⟩
 done:=by
  intro X hP hw hK hc i pins s σ H E I hf st hg
  subst hP hw hK
  obtain ⟨xs,hq,hx⟩:=hg
  obtain ⟨its,rv,p,hz⟩:=I.tuple hq
  obtain ⟨f0,f1,f2,f3,f4,f5⟩:=hf it (by simp)
  have hl:=rv.length
  exact wpAny_pyNext_tuple_end (I.ok.hd hc) st (show s.heap.IsTuple a its.toArray from p) (by simp;omega) fun h' eb=>⟨rfl,I.turned (t':=s.toks) (fun b o hb e=>eb b o hb e) f0 f1 f3 f4 f5⟩
 self:=fun _ _ _ _ _ st h=>wpAny_pyIter_tupleiter st h
theorem la {P:Program} {w:World} {K:Frag} {tg:Expr} (it:Addr) (lo:Int) (n:Nat):Turn P w K tg (Itr lo n) [it] it (fun i h=>IsRangeIter h it (lo+(i:Nat)*1) ((n:Int)-(i:Nat)) 1) where
 mem:=by simp
 obj:=fun i h st b hb=>by
  have e:b=it:=by simpa using hb
  subst e
  exact ⟨_,st,fun v z=>by
   have z':Data.fields _=Data.cell v:=z
   cases z'⟩
 keep:=fun i h h' st k=>k it (by simp) _ st
 item:=by
  intro X hP hw hK hc i pins s σ H E I hf st hg
  subst hP hw hK
  obtain ⟨f0,f1,f2,f3,f4,f5⟩:=hf it (by simp)
  have W:=Walks.range (prog:=X.prog) (w:=X.w) (I.ok.hd hc) it lo 1 n
  refine W.item i s _ _ hg st fun v h' tk hv st' kk=>?_
  obtain ⟨t,rfl⟩:=hv
  have I1:Inv X pins σ H { s with heap:=h',toks:=tk }:=I.turned (fun b o hb e=>kk b o (by simpa using hb) e) f0 f1 f3 f4 f5
  refine ⟨_,rfl,go_of (s:={ s with heap:=h',toks:=tk }) (n:="range_iterator") st' rfl rfl (by decide) ⟨.int (lo+i),H,I1,⟨t,?_⟩,⟨rfl,rfl⟩,st',fun b hb=>(hf b hb).1⟩⟩
  rw [Int.mul_one]
 done:=by
  intro X hP hw hK hc i pins s σ H E I hf st hg
  subst hP hw hK
  obtain ⟨f0,f1,f2,f3,f4,f5⟩:=hf it (by simp)
  exact wpAny_pyNext_range_end (I.ok.hd hc) st (by have:n≤i:=hg;omega) fun h' eb=>⟨rfl,I.turned (t':=s.toks) (fun b o hb e=>eb b o hb e) f0 f1 f3 f4 f5⟩
 self:=fun _ _ _ _ _ st h=>wpAny_pyIter_rangeiter st h
end L2
namespace L2
open PySem PySem.Spec PyProof.Rows
section
variable {X:Cx} {tg:Expr}
def iList (K:Frag) (tl:TE):TI:=fun σ H R=>tl σ H fun x H1=>∃ a,x=.ref a∧(∃ xs,SqL K H1 a xs)∧R (Itl K a) H1
def iTup (K:Frag) (tl:TE):TI:=fun σ H R=>tl σ H fun x H1=>∃ a,x=.ref a∧(∃ xs,SqT K H1 a xs)∧R (Itt K a) H1
theorem pi_list {l:Expr} {tl:TE} (hl:PE X l tl):PI X tg l (iList X.K tl):=by
 intro pins s σ H R I h
 refine thn (hl pins s σ H _ I h) fun v s1 ⟨x,H1,I1,r1,q1⟩=>?_
 obtain ⟨a,e,⟨xs,hq⟩,q⟩:=q1
 subst e
 cases r1
 obtain ⟨its,rv,p,hz⟩:=I1.list hq
 refine wpAny_pyIter_list p.isList ?_
 refine ⟨s1.heap.objs.size,[s1.heap.objs.size],_,_,H1,rfl,I1.kept (t':=s1.toks) fun b o e=>Heap.get?_push_of_some _ e,turn_list a _,⟨_,Heap.get?_push_size _ rfl,rfl,rfl⟩,fun b hb=>?_,q⟩
 have e:b=s1.heap.objs.size:=by simpa using hb
 subst e
 exact I1.fpOk (Nat.le_refl _) (I1.hok.fresh (Nat.le_refl _))
theorem pi_tup {l:Expr} {tl:TE} (hl:PE X l tl):PI X tg l (iTup X.K tl):=by
 intro pins s σ H R I h
 refine thn (hl pins s σ H _ I h) fun v s1 ⟨x,H1,I1,r1,q1⟩=>?_
 obtain ⟨a,e,⟨xs,hq⟩,q⟩:=q1
 subst e
 cases r1
 obtain ⟨its,rv,p,hz⟩:=I1.tuple hq
 refine wpAny_pyIter_tuple (show s1.heap.IsTuple a its.toArray from p) ?_
 refine ⟨s1.heap.objs.size,[s1.heap.objs.size],_,_,H1,rfl,I1.kept (t':=s1.toks) fun b o e=>Heap.get?_push_of_some _ e,k9 a _,⟨_,Heap.get?_push_size _ rfl,rfl,rfl⟩,fun b hb=>?_,q⟩
 have e:b=s1.heap.objs.size:=by simpa using hb
 subst e
 exact I1.fpOk (Nat.le_refl _) (I1.hok.fresh (Nat.le_refl _))
theorem range_it {pins:List (Addr×Obj)} {σ:St} {H:Hp} {s:Shared} {R:It→Hp→Prop} {E:Value→Shared→Prop} {lo hi:Int} {t u v:Tok} {tk:Nat} (I:Inv X pins σ H s) (h1:-(2 ^ 62)≤lo) (h2:lo<2 ^ 62) (h3:-(2 ^ 62)≤hi) (h4:hi<2 ^ 62)
  (q:R (Itr lo (hi-lo).toNat) H):wpAny (model X.prog X.w) X.A (pyIter (.ref s.heap.objs.size)) (PIE X pins σ tg R) E { s with heap:=s.heap.push { cls:=.type "range",data:=.fields #[.int lo t,.int hi u,.int 1 v] },toks:=tk }:=by
 refine wpAny_pyIter_range (IsRange.new ..) (small_one h1 h2 h3 h4) ?_
 have I1:Inv X pins σ H { s with heap:=s.heap.push { cls:=.type "range",data:=.fields #[.int lo t,.int hi u,.int 1 v] },toks:=tk }:=I.kept fun b o e=>Heap.get?_push_of_some _ e
 refine ⟨(s.heap.push { cls:=.type "range",data:=.fields #[.int lo t,.int hi u,.int 1 v] }).objs.size,[(s.heap.push { cls:=.type "range",data:=.fields #[.int lo t,.int hi u,.int 1 v] }).objs.size],_,_,H,rfl,
  I1.kept (t':=tk) fun b o e=>Heap.get?_push_of_some _ e,la _ lo (hi-lo).toNat,?_,fun b hb=>?_,q⟩
 ·
  have e1:lo+((0:Nat):Int)*1=lo:=by simp
  have e2:(((hi-lo).toNat:Nat):Int)-((0:Nat):Int)=Builtin.Range.rangeSize lo hi 1:=by rw [rangeSize_one];split <;> omega
  show IsRangeIter _ _ (lo+((0:Nat):Int)*1) ((((hi-lo).toNat:Nat):Int)-((0:Nat):Int)) 1
  rw [e1,e2]
  exact Heap.get?_push_size _ rfl
 ·
  have e:b=(s.heap.push { cls:=.type "range",data:=.fields #[.int lo t,.int hi u,.int 1 v] }).objs.size:=by simpa using hb
  subst e
  exact I1.fpOk (Nat.le_refl _) (I1.hok.fresh (Nat.le_refl _))
def iRng1 (ta:TA):TI:=fun σ H R=>ta σ H fun vs H1=>∃ j:Int,vs=[.int j]∧-(2 ^ 62)≤j∧j<2 ^ 62∧R (Itr 0 j.toNat) H1
theorem pi_range1 {a:Expr} {ta:TA} {p pos:Pos} (hg:Gl X "range") (hm:X.mg "range" = none) (ha:PA X [a] ta) (hs:starEach [a] X.env=[(false,eval a X.env)]:=by rfl):PI X tg (.Call (.Name "range" p) [a] [] pos) (iRng1 ta):=by
 intro pins s σ H R I h
 refine Call_ (jw I hg hm boot_range (callWith_type1 (thn (ha pos pins s σ H _ I h) fun us s1 ⟨vs,H1,I1,r1,q1⟩=>?_) hs rfl))
 obtain ⟨j,e,q1,q2,q⟩:=q1
 subst e
 cases r1 with
 | cons r rr=>
  cases rr
  obtain ⟨t,rfl⟩:=r
  exact call_range_1 (range_it I1 (by omega) (by omega) q1 q2 (by simpa using q))
def tFor (wi:TI) (g:TG) (tb:TS):TS:=fun D σ H=>wi σ H fun J H1=>∃ W:Nat→Nat→St→Hp→Prop,(∃ m,W 0 m σ H1)∧∀ i m σ H,W i m σ H→
 (J.stop i H∧D.nx σ H)∨(J.go i H∧∃ N:St→Hp→Prop,(∀ σ' H',N σ' H'→∃ m',m'<m∧W (i+1) m' σ' H')∧∀ x H',J.yld i H x H'→g x σ H' fun σ2 H2=>tb { D with nx:=N,ct:=N,bk:=D.nx } σ2 H2)
def gA (fp:List Addr) (h:Heap):List (Addr×Obj):=fp.filterMap fun b=>(h.get? b).map fun o=>(b,o)
theorem cq {fp:List Addr} {h:Heap} {b:Addr} {o:Obj} (hb:b∈fp) (e:h.get? b=some o):(b,o)∈gA fp h:=List.mem_filterMap.mpr ⟨b,hb,by rw [e];rfl⟩
theorem of_pinsAt {fp:List Addr} {h:Heap} {p:Addr×Obj} (hp:p∈gA fp h):p.1∈fp∧h.get? p.1=some p.2:=by
 obtain ⟨b,hb,e⟩:=List.mem_filterMap.mp hp
 cases q:h.get? b with
 | none=>rw [q] at e;cases e
 | some o=>
  rw [q] at e
  have e':(b,o)=p:=Option.some.inj e
  subst e'
  exact ⟨hb,q⟩
theorem Inv.pinned {pins:List (Addr×Obj)} {σ:St} {H:Hp} {s:Shared} {fp:List Addr} (I:Inv X pins σ H s) (hf:∀ b∈fp,hJ X pins H b) (ho:∀ b∈fp,∃ o,s.heap.get? b=some o∧∀ v,o.data≠.cell v):Inv X (pins++gA fp s.heap) σ H s:=
 I.pins_of fun p hp=>(List.mem_append.mp hp).elim (fun z=>I.pin p (List.mem_append_right _ z)) fun z=>by
  obtain ⟨hb,e⟩:=of_pinsAt z
  obtain ⟨f0,f1,f2,_⟩:=hf p.1 hb
  obtain ⟨o,e',d⟩:=ho p.1 hb
  rw [e] at e';cases e'
  exact ⟨e,f0,f1,f2,d⟩
theorem Inv.unpinned {pins pl:List (Addr×Obj)} {σ:St} {H:Hp} {s:Shared} (I:Inv X (pins++pl) σ H s):Inv X pins σ H s:=I.pins_of fun p hp=>I.pin p (List.mem_append_right _ (List.mem_append_left _ hp))
theorem ps_for {iter:Expr} {body:List Stmt} {wi:TI} {g:TG} {tb:TS} {pos:Pos} (hp:PassesOwn (model X.prog X.w) X.A X.env X.xe) (hc:X.calm=true) (hi:PI X tg iter wi) (hg:PG X tg g) (hb:PSs X body tb)
  (hs:∀ x,foldedSetIterable iter X.env x=pure x:=by intro _;rfl):PS X (.For tg iter body [] pos) (tFor wi g tb):=by
 intro pins s σ H D I h
 refine wpAny_For (thn (hi pins s σ H _ I h) fun v s1 h1=>thn h1 fun itv s2 h2=>?_) hs
 obtain ⟨it,fp,tn,J,H2,e,I2,T,st2,f2,W,⟨m0,w0⟩,turn⟩:=h2
 subst e
 have stat:∀ {H':Hp},(∀ b∈fp,H' b=none)→∀ b∈fp,hJ X pins H' b:=fun hn b hb=>⟨hn b hb,(f2 b hb).2⟩
 refine codeAny_forLoop_any (fun n s'=>∃ i σ' H',Inv X pins σ' H' s'∧tn i s'.heap∧(∀ b∈fp,H' b=none)∧W i n σ' H') ?_ m0 ⟨0,σ,H2,I2,st2,fun b hb=>(f2 b hb).1,w0⟩
 rintro n s3 ⟨i,σ3,H3,I3,st3,fr3,w3⟩
 rcases turn i n σ3 H3 w3 with ⟨stop,qn⟩ | ⟨go,N,hN,step⟩
 ·
  refine wpAny_passesOwn hp (thn (T.done X rfl rfl rfl hc i pins s3 σ3 H3 X.xe I3 (stat fr3) st3 stop) fun r s4 ⟨hr,I4⟩=>?_)
  subst hr
  exact wpAny_execs_nil ⟨σ3,H3,I4,qn⟩
 ·
  refine wpAny_passesOwn hp (thn (T.item X rfl rfl rfl hc i pins s3 σ3 H3 X.xe I3 (stat fr3) st3 go) fun r s4 ⟨u,hr,h4⟩=>?_)
  subst hr
  refine wpAny_passesOwn hp (thn h4 fun _ s5 ⟨x,H5,I5,r5,y5,st5,fr5⟩=>?_)
  have I5':=I5.pinned (stat fr5) (T.obj _ _ st5)
  refine wpAny_passesOwn hp (thn (hg _ s5 σ3 H5 x u _ I5' r5 (step x H5 y5)) fun _ s6 ⟨σ6,H6,I6,q6⟩=>?_)
  refine wpAny_passesOwn hp (thn (hb _ s6 σ6 H6 _ I6 q6) fun f s7 q7=>?_)
  have again:∀ {σ7:St} {H7:Hp},Inv X (pins++gA fp s5.heap) σ7 H7 s7→N σ7 H7→∃ m,m<n∧∃ i σ' H',Inv X pins σ' H' s7∧tn i s7.heap∧(∀ b∈fp,H' b=none)∧W i m σ' H':=fun {σ7 H7} I7 n7=>by
   obtain ⟨m',hm,w7⟩:=hN σ7 H7 n7
   refine ⟨m',hm,i+1,σ7,H7,I7.unpinned,T.keep _ _ _ st5 fun b hb o e=>(I7.pin (b,o) (List.mem_append_right _ (List.mem_append_right _ (cq hb e)))).1,fun b hb=>?_,w7⟩
   obtain ⟨o,e,d⟩:=T.obj _ _ st5 b hb
   exact (I7.pin (b,o) (List.mem_append_right _ (List.mem_append_right _ (cq hb e)))).2.1
  cases f with
  | next=>obtain ⟨σ7,H7,I7,n7⟩:=q7;exact again I7 n7
  | cont=>obtain ⟨σ7,H7,I7,n7⟩:=q7;exact again I7 n7
  | brk=>obtain ⟨σ7,H7,I7,q7⟩:=q7;exact ⟨σ7,H7,I7.unpinned,q7⟩
  | ret v=>obtain ⟨x7,σ7,H7,I7,r7,q7⟩:=q7;exact ⟨x7,σ7,H7,I7.unpinned,r7,q7⟩
end
end L2
namespace L2
open PySem PySem.Spec PyProof.Rows
abbrev R2:=V→V→Hp→VK→Prop
def OpR (X:Cx) (f:Value→Value→Sem Value) (r:R2):Prop:=
 ∀ (pins:List (Addr×Obj)) (s:Shared) (σ:St) (H:Hp) (x y:V) (v u:Value) (Q:VK),Inv X pins σ H s→RelV x v→RelV y u→r x y H Q→
  wpAny (model X.prog X.w) X.A (f v u) (EP X pins σ Q) X.xe s
def UnR (X:Cx) (f:Value→Sem Value) (r:V→Hp→VK→Prop):Prop:=
 ∀ (pins:List (Addr×Obj)) (s:Shared) (σ:St) (H:Hp) (x:V) (v:Value) (Q:VK),Inv X pins σ H s→RelV x v→r x H Q→
  wpAny (model X.prog X.w) X.A (f v) (EP X pins σ Q) X.xe s
def bN (X:Cx) (f:Value) (r:List V→Hp→VK→Prop):Prop:=
 ∀ (pins:List (Addr×Obj)) (s:Shared) (σ:St) (H:Hp) (xs:List V) (us:List Value) (Q:VK),Inv X pins σ H s→aA xs us→r xs H Q→
  wpAny (model X.prog X.w) X.A (call f us) (EP X pins σ Q) X.xe s
def tOp (r:R2) (ta tb:TE):TE:=fun σ H Q=>ta σ H fun x H1=>tb σ H1 fun y H2=>r x y H2 Q
def tUn (r:V→Hp→VK→Prop) (ta:TE):TE:=fun σ H Q=>ta σ H fun x H1=>r x H1 Q
def rI (C:Int→Int→Prop) (g:Int→Int→V):R2:=fun x y H Q=>∃ i j,x=.int i∧y=.int j∧C i j∧Q (g i j) H
def rI0 (g:Int→Int→V):R2:=fun x y H Q=>∃ i j,x=.int i∧y=.int j∧Q (g i j) H
def rU (g:Int→V):V→Hp→VK→Prop:=fun x H Q=>∃ i,x=.int i∧Q (g i) H
section
variable {X:Cx} {a b c:Expr} {ta tb tc:TE} {pos:Pos}
theorem binT (ha:PE X a ta) (hb:PE X b tb) {pins:List (Addr×Obj)} {s:Shared} {σ:St} {H:Hp} {R:V→V→Hp→Prop} (I:Inv X pins σ H s)
  (h:ta σ H fun x H1=>tb σ H1 fun y H2=>R x y H2) {Q:Value→Shared→Prop} {f:Value→Value→Sem Value}
  (hf:∀ v u s2 x y H2,Inv X pins σ H2 s2→RelV x v→RelV y u→R x y H2→wpAny (model X.prog X.w) X.A (f v u) Q X.xe s2) :
  wpAny (model X.prog X.w) X.A (eval a X.env) (fun v s₁=>wpAny (model X.prog X.w) X.A (eval b X.env) (fun u s₂=>wpAny (model X.prog X.w) X.A (f v u) Q X.xe s₂) X.xe s₁) X.xe s:=by
 refine thn (ha pins s σ H _ I h) fun v s1 ⟨x,H1,I1,r1,q1⟩=>?_
 refine thn (hb pins s1 σ H1 _ I1 q1) fun u s2 ⟨y,H2,I2,r2,q2⟩=>?_
 exact hf v u s2 x y H2 I2 r1 r2 q2
theorem pe_op {op:Operator} {r:R2} (ho:OpR X (binaryOp op) r) (ha:PE X a ta) (hb:PE X b tb):PE X (.BinOp a op b pos) (tOp r ta tb):=by
 intro pins s σ H Q I h
 exact wpAny_BinOp (binT ha hb I h fun v u s2 x y H2 I2 rx ry q=>ho pins s2 σ H2 x y v u Q I2 rx ry q)
theorem pe_un {op:UnaryOp} {r:V→Hp→VK→Prop} (ho:UnR X (unaryOp op) r) (ha:PE X a ta):PE X (.UnaryOp op a pos) (tUn r ta):=by
 intro pins s σ H Q I h
 exact UnaryOp_ (thn (ha pins s σ H _ I h) fun v s1 ⟨x,H1,I1,r1,q1⟩=>ho pins s1 σ H1 x v Q I1 r1 q1)
theorem opI {f:Value→Value→Sem Value} {C:Int→Int→Prop} {g:Int→Int→Int}
  (rule:∀ (i j:Int) (t u:Tok) (s:Shared) (Q:Value→Shared→Prop) (E:Value→Shared→Prop),C i j→Q (.int (g i j) s.toks) { s with toks:=s.toks+1 }→wpAny (model X.prog X.w) X.A (f (.int i t) (.int j u)) Q E s) :
  OpR X f (rI C fun i j=>.int (g i j)):=by
 intro pins s σ H x y v u Q I rx ry h
 obtain ⟨i,j,rfl,rfl,hc,q⟩:=h
 obtain ⟨t,rfl⟩:=rx
 obtain ⟨t',rfl⟩:=ry
 exact rule i j t t' s _ _ hc ⟨.int (g i j),H,I.tok _,⟨_,rfl⟩,q⟩
theorem opI0 {f:Value→Value→Sem Value} {g:Int→Int→Int}
  (rule:∀ (i j:Int) (t u:Tok) (s:Shared) (Q:Value→Shared→Prop) (E:Value→Shared→Prop),Q (.int (g i j) s.toks) { s with toks:=s.toks+1 }→wpAny (model X.prog X.w) X.A (f (.int i t) (.int j u)) Q E s) :
  OpR X f (rI0 fun i j=>.int (g i j)):=by
 intro pins s σ H x y v u Q I rx ry h
 obtain ⟨i,j,rfl,rfl,q⟩:=h
 obtain ⟨t,rfl⟩:=rx
 obtain ⟨t',rfl⟩:=ry
 exact rule i j t t' s _ _ ⟨.int (g i j),H,I.tok _,⟨_,rfl⟩,q⟩
theorem opB0 {f:Value→Value→Sem Value} {g:Int→Int→Bool}
  (rule:∀ (i j:Int) (t u:Tok) (s:Shared) (Q:Value→Shared→Prop) (E:Value→Shared→Prop),Q (.bool (g i j)) s→wpAny (model X.prog X.w) X.A (f (.int i t) (.int j u)) Q E s) :
  OpR X f (rI0 fun i j=>.bl (g i j)):=by
 intro pins s σ H x y v u Q I rx ry h
 obtain ⟨i,j,rfl,rfl,q⟩:=h
 obtain ⟨t,rfl⟩:=rx
 obtain ⟨t',rfl⟩:=ry
 exact rule i j t t' s _ _ ⟨.bl (g i j),H,I,rfl,q⟩
def CMul (i j:Int):Prop:=(-(2 ^ 64)<i∧i<2 ^ 64)∨(-(2 ^ 64)<j∧j<2 ^ 64)
theorem CMul.ok {i j:Int} (h:CMul i j):IntMulOk i j:=by
 rcases h with ⟨h1,h2⟩ | ⟨h1,h2⟩
 ·
  exact .of_left (intBits_le_64 h1 h2)
 ·
  exact .of_right (intBits_le_64 h1 h2)
theorem op_add:OpR X (binaryOp .Add) (rI0 fun i j=>.int (i+j)):=opI0 fun _ _ _ _ _ _ _ q=>add_int q
theorem op_sub:OpR X (binaryOp .Sub) (rI0 fun i j=>.int (i-j)):=opI0 fun _ _ _ _ _ _ _ q=>sub_int q
theorem op_mul:OpR X (binaryOp .Mult) (rI CMul fun i j=>.int (i*j)):=opI fun _ _ _ _ _ _ _ hc q=>mul_int q hc.ok
theorem op_mod:OpR X (binaryOp .Mod) (rI (fun _ j=>0<j) fun i j=>.int (i % j)):=opI fun i j _ _ _ _ _ hc q=>by
 have h1:(0:Int)<j:=hc
 exact mod_int' (by omega) (by rw [Int.fmod_eq_emod_of_nonneg i (by omega)];exact q)
theorem unI {f:Value→Sem Value} {g:Int→Int}
  (rule:∀ (i:Int) (t:Tok) (s:Shared) (Q:Value→Shared→Prop) (E:Value→Shared→Prop),Q (.int (g i) s.toks) { s with toks:=s.toks+1 }→wpAny (model X.prog X.w) X.A (f (.int i t)) Q E s) :
  UnR X f (rU fun i=>.int (g i)):=by
 intro pins s σ H x v Q I rx h
 obtain ⟨i,rfl,q⟩:=h
 obtain ⟨t,rfl⟩:=rx
 exact rule i t s _ _ ⟨.int (g i),H,I.tok _,⟨_,rfl⟩,q⟩
theorem un_neg:UnR X (unaryOp .USub) (rU fun i=>.int (-i)):=unI fun _ _ _ _ _ q=>neg_int q
end
section
variable {X:Cx} {a b c:Expr} {ta tb tc:TE} {pos:Pos}
theorem fin_bl {pins:List (Addr×Obj)} {σ:St} {H:Hp} {s:Shared} {Q:VK} {k k':Bool} (I:Inv X pins σ H s) (q:Q (.bl k) H) (e:k=k'):EP X pins σ Q (.bool k') s:=by
 subst e
 exact ⟨.bl k,H,I,rfl,q⟩
theorem op_lt:OpR X (compareOp .Lt) (rI0 fun i j=>.bl (decide (i<j))):=opB0 fun _ _ _ _ _ _ _ q=>lt_int q
theorem op_le:OpR X (compareOp .LtE) (rI0 fun i j=>.bl (decide (i≤j))):=opB0 fun _ _ _ _ _ _ _ q=>le_int q
theorem op_gt:OpR X (compareOp .Gt) (rI0 fun i j=>.bl (decide (j<i))):=opB0 fun _ _ _ _ _ _ _ q=>gt_int q
theorem jy:OpR X (compareOp .NotIn) (fun x y H Q=>∃ i j,x=.str i∧y=.str j∧Q (.bl (!(!(Builtin.Str.occurrences j i 0 j.length 1).isEmpty))) H):=by
 intro pins s σ H x y v u Q I rx ry h
 obtain ⟨i,j,rfl,rfl,q⟩:=h
 obtain ⟨t,rfl⟩:=rx
 obtain ⟨t',rfl⟩:=ry
 exact notIn_str (fin_bl I q rfl)
theorem jz (b:Expr) {op:CmpOp} (h:op≠.In:=by decide) (h2:op≠.NotIn:=by decide):behindInMarks op b=false:=by
 have e1:(op==CmpOp.In)=false:=by cases op <;> first | rfl | exact absurd rfl h
 have e2:(op==CmpOp.NotIn)=false:=by cases op <;> first | rfl | exact absurd rfl h2
 cases b <;> simp [behindInMarks,e1,e2]
theorem pe_cmpR {op:CmpOp} {r:R2} (ho:OpR X (compareOp op) r) (ha:PE X a ta) (hb:PE X b tb) (hm:behindInMarks op b=false):PE X (.Compare a [op] [b] pos) (tOp r ta tb):=by
 intro pins s σ H Q I h
 exact wpAny_Compare1 (binT ha hb I h fun v u s2 x y H2 I2 rx ry q=>ho pins s2 σ H2 x y v u Q I2 rx ry q) hm
def tTest (t:TE):TT:=fun σ H Q=>t σ H fun x H'=>∃ k,x=.bl k∧Q k H'
theorem pt_cmpR {op:CmpOp} {r:R2} (ho:OpR X (compareOp op) r) (ha:PE X a ta) (hb:PE X b tb) (hm:behindInMarks op b=false):PT X (.Compare a [op] [b] pos) (tTest (tOp r ta tb)):=by
 intro pins s σ H Q I h
 refine wpAny_isTrue_Compare1 (thn (ha pins s σ H _ I h) fun v s1 ⟨x,H1,I1,r1,q1⟩=>thn (hb pins s1 σ H1 _ I1 q1) fun u s2 ⟨y,H2,I2,r2,q2⟩=>
  thn (ho pins s2 σ H2 x y v u _ I2 r1 r2 q2) fun c s3 ⟨z,H3,I3,r3,k,e,q3⟩=>?_) hm
 subst e
 cases r3
 exact wpAny_truthy_bool ⟨H3,I3,q3⟩
def tChain (r r':R2) (ta tb tc:TE):TE:=fun σ H Q=>ta σ H fun x H1=>tb σ H1 fun y H2=>r x y H2 fun z H3=>∃ k,z=.bl k∧
 (if k=true then tc σ H3 fun w' H4=>r' y w' H4 Q else Q (.bl false) H3)
theorem pt_chain {op op':CmpOp} {r r':R2} (ho:OpR X (compareOp op) r) (ho':OpR X (compareOp op') r') (ha:PE X a ta) (hb:PE X b tb) (hc:PE X c tc)
  (hm:lastMarks [op,op'] [b,c]=false:=by with_unfolding_all rfl):PT X (.Compare a [op,op'] [b,c] pos) (tTest (tChain r r' ta tb tc)):=by
 intro pins s σ H Q I h
 refine isTrue_chain (thn (ha pins s σ H _ I h) fun v s1 ⟨x,H1,I1,r1,q1⟩=>test_link (thn (hb pins s1 σ H1 _ I1 q1) fun u s2 ⟨y,H2,I2,r2,q2⟩=>
  thn (ho pins s2 σ H2 x y v u _ I2 r1 r2 q2) fun d s3 ⟨z,H3,I3,r3,k,e,q3⟩=>?_)) hm
 subst e
 cases r3
 refine wpAny_truthy_bool ?_
 cases k with
 | false=>
  obtain ⟨k',e',q'⟩:=q3
  cases e'
  exact ite_ff ⟨H3,I3,q'⟩
 | true=>
  refine ite_tt (test_last (thn (hc pins s3 σ H3 _ I3 q3) fun w' s4 ⟨z',H4,I4,r4,q4⟩=>thn (ho' pins s4 σ H4 y z' u w' _ I4 r2 r4 q4) fun d' s5 ⟨z2,H5,I5,r5,k2,e2,q5⟩=>?_))
  subst e2
  cases r5
  exact wpAny_truthy_bool ⟨H5,I5,q5⟩
theorem jA:(sizeLine:Nat)<2 ^ 63:=by rw [sizeLine_eq];decide
theorem lb:OpR X (binaryOp .Add) (fun x y H Q=>∃ i j,x=.str i∧y=.str j∧i.length+j.length≤sizeLine∧Q (.str (i++j)) H):=by
 intro pins s σ H x y v u Q I rx ry h
 obtain ⟨i,j,rfl,rfl,hz,q⟩:=h
 obtain ⟨t,rfl⟩:=rx
 obtain ⟨t',rfl⟩:=ry
 exact add_str (fun t' tk=>⟨.str (i++j),H,I.tok _,⟨_,rfl⟩,q⟩) hz
def ke (b:Expr):Prop:=∀ o i,subscripted b false o i=operate [o,i] (getItem o i)
theorem kf (ha:PE X a ta) (hb:PE X b tb) (hs:ke b) :
  PE X (.Subscript a b pos) (tOp (fun x y H Q=>∃ z i c,x=.str z∧y=.int i∧0≤i∧i<2 ^ 63∧i<z.length∧z.cps[i.toNat]?=some c∧Q (.str ⟨#[c]⟩) H) ta tb):=by
 intro pins s σ H Q I h
 refine Subscript_ (binT ha hb I h fun v u s2 x y H2 I2 rx ry q=>?_)
 obtain ⟨z,i,c,rfl,rfl,h0,h63,h1,hc,q⟩:=q
 obtain ⟨t,rfl⟩:=rx
 obtain ⟨t',rfl⟩:=ry
 have e:seqIndex? i z.length=some i.toNat:=PySem.StrLaws.seqIndex_nonneg h0 h1
 exact tail_any (typeIs_str s2 z t) slot_str_getitem.lookup (getItem_str (c:=c) (by
  have e1:decide (i < -(2 ^ 63:Int))=false:=decide_eq_false (by omega)
  have e2:decide (i≥2 ^ 63)=false:=decide_eq_false (by omega)
  rw [e1,e2] <;> rfl) (by rw [e];exact hc) ⟨.str ⟨#[c]⟩,H2,I2.tok _,⟨_,rfl⟩,q⟩) (hs _ _)
theorem vals1 {x:V} {us:List Value} (r:aA [x] us):∃ u,us=[u]∧RelV x u:=by
 cases r with
 | cons r1 r2=>cases r2;exact ⟨_,rfl,r1⟩
theorem vals2 {x y:V} {us:List Value} (r:aA [x,y] us):∃ u w',us=[u,w']∧RelV x u∧RelV y w':=by
 cases r with
 | cons r1 r2=>
  cases r2 with
  | cons r3 r4=>cases r4;exact ⟨_,_,rfl,r1,r3⟩
theorem call_max2 (hc:X.calm=true):bN X (.builtin "max") (fun xs H Q=>∃ i j,xs=[.int i,.int j]∧Q (.int (if j>i then j else i)) H):=by
 intro pins s σ H xs us Q I r h
 obtain ⟨i,j,rfl,q⟩:=h
 obtain ⟨u,w',rfl,⟨t,rfl⟩,⟨t',rfl⟩⟩:=vals2 r
 refine max_two_ints (I.ok.hd hc) fun h' tk k=>⟨_,H,I.kept k,?_,q⟩
 by_cases hj:j>i
 ·
  rw [if_pos hj,if_pos hj];exact ⟨_,rfl⟩
 ·
  rw [if_neg hj,if_neg hj];exact ⟨_,rfl⟩
theorem call_min2 (hc:X.calm=true):bN X (.builtin "min") (fun xs H Q=>∃ i j,xs=[.int i,.int j]∧Q (.int (if j<i then j else i)) H):=by
 intro pins s σ H xs us Q I r h
 obtain ⟨i,j,rfl,q⟩:=h
 obtain ⟨u,w',rfl,⟨t,rfl⟩,⟨t',rfl⟩⟩:=vals2 r
 refine min_two_ints (I.ok.hd hc) fun h' tk k=>⟨_,H,I.kept k,?_,q⟩
 by_cases hj:j<i
 ·
  rw [if_pos hj,if_pos hj];exact ⟨_,rfl⟩
 ·
  rw [if_neg hj,if_neg hj];exact ⟨_,rfl⟩
theorem jB:bN X (.type "str") (fun xs H Q=>∃ i,xs=[.int i]∧i.natAbs.log2<1920∧Q (.str (toString i)) H):=by
 intro pins s σ H xs us Q I r h
 obtain ⟨i,rfl,hz,q⟩:=h
 obtain ⟨u,rfl,t,rfl⟩:=vals1 r
 exact PySem.P.str_of_int hz ⟨.str _,H,I.tok _,⟨_,rfl⟩,q⟩
end
end L2
namespace L2
open PySem PySem.Spec PyProof.Rows
structure ObjM (h:Heap) (x dx C:Addr) (mA:Str→Option Value):Prop where
 obj:h.get? x=some (instObj C dx)
 ns:h.Ns1 dx mA
 ne:dx≠x
theorem lookIn_ns {h:Heap} {dx:Addr} {mA:Str→Option Value} (n:h.Ns1 dx mA):∃ od,h.get? dx=some od∧∀ name,lookIn name od=some (mA name):=by
 obtain ⟨o,es,ep,ho,hd,hk,_,hm⟩:=n
 refine ⟨o,ho,fun name=>?_⟩
 have e:=hm name
 unfold nsFind findBy at e
 rw [←Array.find?_toList] at e
 unfold lookIn
 rw [hd]
 dsimp only
 split
 ·
  rename_i y q
  rw [q] at e
  exact congrArg some e
 ·
  rename_i q
  rw [q] at e
  have a:es.toList.any (·.refKey)=false:=by
   rw [List.any_eq_false]
   intro y hy
   obtain ⟨z,t,hkey⟩:=hk y (Array.mem_toList_iff.mp hy)
   simp [DictEntry.refKey,hkey]
  have a':¬es.toList.any (·.refKey)=true:=by rw [a];exact Bool.false_ne_true
  rw [if_neg a']
  exact congrArg some e
theorem ObjM.look {h:Heap} {x dx C:Addr} {mA:Str→Option Value} (I:ObjM h x dx C mA):∃ od,InstAt h x (instObj C dx) C (some od)∧∀ name,lookIn name od=some (mA name):=
 let ⟨od,ho,hl⟩:=lookIn_ns I.ns
 ⟨od,⟨I.obj,rfl,rfl,ho⟩,hl⟩
section
variable {prog:Program} {w:World} {A:Around} {E:Value→Shared→Prop} {s:Shared} {K:Frag} {x dx C f:Addr} {mA:Str→Option Value} {name:Str} {v:Value}
theorem get_map {expr:Bool} {Q:Value→Shared→Prop} (X:K.In s.heap) (I:ObjM s.heap x dx C mA) (hg:plainGet K C name=true) (hh:hasDictIn K C=true)
  (ha:findIn K (.ref C) name=some none) (hv:mA name=some v) (hv':handedIn v=true) (h:Q v { s with toks:=s.toks+1 }) :
  wpAny (model prog w) A (getAttr (.ref x) name expr) Q E s:=by
 obtain ⟨od,J,hl⟩:=I.look
 exact PySem.W.get_value X J (plainGet_of hg).1 (PySem.W.findObj_own hh ha rfl (by rw [hl,hv])) hv' h
theorem get_meth {pl:Sem Bool} {Q:Value×List Value→Shared→Prop} (X:K.In s.heap) (I:ObjM s.heap x dx C mA) (hg:plainGet K C name=true)
  (hf:findIn K (.ref C) name=some (some (.ref f))) (ht:isFn K (.ref f)=true) (hv:mA name=none) (h:Q (.ref f,[.ref x]) s) :
  wpAny (model prog w) A (getMethod (.ref x) name pl) Q E s:=by
 obtain ⟨od,J,hl⟩:=I.look
 exact PySem.W.method_fn X J (plainGet_of hg).1 (plainGet_of hg).2 hf (beq_iff_eq.mp ht) (by show (lookIn name od).map (·.isSome)=some false;rw [hl,hv];rfl) h
theorem set_map {ns:List Str} {Q:Unit→Shared→Prop} (X:K.In s.heap) (I:ObjM s.heap x dx C mA)
  (hs:findIn K (.ref C) "__setattr__" = some (some (.builtin "object.__setattr__"))) (hp:plainOver K C=true) (ht:takerIn K C name=some none) (hh:hasDictIn K C=true)
  (hw:PySem.Within mA ns) (hsz:ns.length≤sizeLine)
  (h:∀ h',ObjM h' x dx C (fun y=>if y=name then some v else mA y)→Heap.SameBut dx s.heap h'→Q () { s with heap:=h',toks:=s.toks+2 }) :
  wpAny (model prog w) A (setAttr (.ref x) name v) Q E s:=by
 obtain ⟨od,J,hl⟩:=I.look
 refine PySem.W.set_plain X J hs (PySem.W.osa_open (s:={ s with toks:=s.toks+1 }) (r:=none) X J hp ht fun b=>?_)
 obtain ⟨cd,hc,hd'⟩:=PySem.W.any_some hh
 have hx:s.heap.get? x=some ⟨.ref C,some dx,.plain,#[]⟩:=I.obj
 refine wpAny_bind (wpAny_pure (wpAny_bind (wpAny_bind (wpAny_loadPart hx (wpAny_bind (PySem.W.Looks.here (s:={ s with toks:=s.toks+1 }) (PySem.W.looks_clsIn X hc) ?_))))))
 rw [hd']
 refine wpAny_pure (a:=some dx) (wpAny_bind (wpAny_pure (wpAny_bind ?_)))
 refine wpAny_nsSet1 (s:={ s with toks:=s.toks+1 }) I.ns fun h' hn2 hs2=>?_
 obtain ⟨oD,esD,epD,hoD,hdD,hcD⟩:=hn2.count (PySem.Within.cons name v hw)
 refine wpAny_bind (wpAny_lookBehind hoD (by rw [hdD];exact pastItsLine_dict (Nat.le_trans hcD (by rw [List.length_cons];omega))) ?_)
 exact wpAny_pure (h _ ⟨(hs2.2 _ (Ne.symm I.ne)).trans I.obj,hn2,I.ne⟩ hs2)
theorem make_map {R:Result→Shared→Prop} {vs:List Value} {kw:List (Str×Value)} (X:K.In s.heap) (hm:makesIn K C=true)
  (hi:findIn K (.ref C) "__init__" = some (some (.ref f))) (hf:typeIn K (.ref f)=some (.type "function"))
  (h:codeAny (model prog w) (A.under (.builtin "type.__call__" ⟨.ref C::vs,kw⟩)) (.call (.ref f) ⟨.ref (s.heap.objs.size+1)::vs,kw⟩) (PySem.W.InitBack (s.heap.objs.size+1) R)
   { s with heap:=(s.heap.push emptyDict).push (instObj C s.heap.objs.size) }) :
  codeAny (model prog w) A (.call (.ref C) ⟨vs,kw⟩) R s:=by
 obtain ⟨hh,g,d,t,os⟩:=s
 exact PySem.W.make_core (PySem.W.makes_of X hm) (PySem.W.looks_findIn X hi) (fun self=>PySem.W.bind_fn X self hf) (.inl rfl) h
end
def eL (f:Str) (v:V):List (Str×V)→List (Str×V)
  | []=>[(f,v)]
  | (g,x)::r=>if g=f then (g,v)::r else (g,x)::eL f v r
theorem gW (f g:Str) (v:V):∀ fs:List (Str×V),(eL f v fs).lookup g=if g=f then some v else fs.lookup g
  | []=>by
    show List.lookup g [(f,v)]=_
    by_cases h:g=f
    · have hb:(g==f)=true:=beq_iff_eq.mpr h
      simp only [List.lookup,hb,if_pos h]
    · have hb:(g==f)=false:=beq_eq_false_iff_ne.mpr h
      simp only [List.lookup,hb,if_neg h]
  | (k,x)::r=>by
    have ih:=gW f g v r
    rw [show eL f v ((k,x)::r)=(if k=f then (k,v)::r else (k,x)::eL f v r) from rfl]
    by_cases hk:k=f
    · rw [if_pos hk]
      by_cases h:g=k
      · have hb:(g==k)=true:=beq_iff_eq.mpr h
        simp only [List.lookup,hb,if_pos (h.trans hk)]
      · have hb:(g==k)=false:=beq_eq_false_iff_ne.mpr h
        simp only [List.lookup,hb,if_neg (fun e:g=f=>h (e.trans hk.symm))]
    · rw [if_neg hk]
      by_cases h:g=k
      · have hb:(g==k)=true:=beq_iff_eq.mpr h
        simp only [List.lookup,hb,if_neg (fun e:g=f=>hk (h.symm.trans e))]
      · have hb:(g==k)=false:=beq_eq_false_iff_ne.mpr h
        simp only [List.lookup,hb]
        exact ih
theorem gD (f:Str) (v:V):∀ fs:List (Str×V),f∈(eL f v fs).map (·.1)∧∀ g,g∈fs.map (·.1)→g∈(eL f v fs).map (·.1)
  | []=>⟨by simp [eL],fun g h=>by simp at h⟩
  | (k,x)::r=>by
    obtain ⟨i1,i2⟩:=gD f v r
    rw [show eL f v ((k,x)::r)=(if k=f then (k,v)::r else (k,x)::eL f v r) from rfl]
    by_cases hk:k=f
    · rw [if_pos hk]
      subst hk
      exact ⟨by simp,fun g h=>by simpa using h⟩
    · rw [if_neg hk]
      refine ⟨?_,fun g h=>?_⟩
      · rw [List.map_cons]
        exact List.mem_cons_of_mem _ i1
      · rw [List.map_cons] at h ⊢
        rcases List.mem_cons.mp h with e | e
        · exact List.mem_cons.mpr (.inl e)
        · exact List.mem_cons_of_mem _ (i2 g e)
theorem gX (f:Str) (v:V):∀ fs:List (Str×V),(eL f v fs).length≤fs.length+1
  | []=>by simp [eL]
  | (k,x)::r=>by
    have ih:=gX f v r
    rw [show eL f v ((k,x)::r)=(if k=f then (k,v)::r else (k,x)::eL f v r) from rfl]
    by_cases hk:k=f
    · rw [if_pos hk,List.length_cons,List.length_cons];omega
    · rw [if_neg hk,List.length_cons,List.length_cons];omega
theorem RelO.some_of {v:V} {o:Option Value} (r:RelO (some v) o):∃ u,o=some u∧RelV v u:=by
 cases o with
 | none=>exact (show False from r).elim
 | some u=>exact ⟨u,rfl,r⟩
theorem RelO.none_of {o:Option Value} (r:RelO none o):o=none:=by
 cases o with
 | none=>rfl
 | some u=>exact (show False from r).elim
theorem handed_of {v:V} {u:Value} (r:RelV v u):handedIn u=true:=by
 cases v with
 | non=>cases (show u=Value.none from r);rfl
 | bl b=>cases (show u=Value.bool b from r);rfl
 | int i=>obtain ⟨t,e⟩:=(show ∃ t,u=Value.int i t from r);cases e;rfl
 | str x=>obtain ⟨t,e⟩:=(show ∃ t,u=Value.str x t from r);cases e;rfl
 | byt b=>obtain ⟨t,e⟩:=(show ∃ t,u=Value.bytes b t from r);cases e;rfl
 | flt b=>obtain ⟨t,e⟩:=(show ∃ t,u=Value.float b t from r);cases e;rfl
 | ref a=>cases (show u=Value.ref a from r);rfl
 | ty n=>cases (show u=Value.type n from r);rfl
section
variable {P:Program} {w:World} {H H':Hp} {h h':Heap} {a C dx:Addr} {fs fs':List (Str×V)}
theorem h9 (hok:HOk P w H h) (e:H a=some (.ins C dx fs)):∃ mA,ObjM h a dx C mA∧(∀ f,RelO (fs.lookup f) (mA f))∧PySem.Within mA (fs.map (·.1))∧fs.length≤1000∧H dx=some (.own a):=by
 obtain ⟨d,z,ne,ob,mA,n,r,q⟩:=(show bE P w H h a (.ins C dx fs) from hok a _ e)
 exact ⟨mA,⟨ob,n,ne⟩,r,q,z,d⟩
end
structure Cls (K:Frag) (C:Addr):Prop where
 pg:plainGet K C Str.empty=true
 hd:hasDictIn K C=true
 po:plainOver K C=true
 sa:findIn K (.ref C) "__setattr__" = some (some (.builtin "object.__setattr__"))
theorem Cls.get {K:Frag} {C:Addr} (c:Cls K C) (f:Str):plainGet K C f=true:=c.pg
def NoAttr (K:Frag) (C:Addr) (f:Str):Prop:=findIn K (.ref C) f=some none
theorem NoAttr.taker {K:Frag} {C:Addr} {f:Str} (n:NoAttr K C f):takerIn K C f=some none:=by
 unfold takerIn
 rw [show findIn K (.ref C) f=some none from n]
 rfl
structure Meth (K:Frag) (C:Addr) (m:Str) (f:Addr):Prop where
 at_:findIn K (.ref C) m=some (some (.ref f))
 fn:isFn K (.ref f)=true
 kp:keepIn K (.ref f)=true
section
variable {X:Cx} {pins:List (Addr×Obj)} {σ:St} {H:Hp} {s:Shared} {a C dx:Addr} {fs:List (Str×V)} {f:Str} {v:V} {A:Around} {E:Value→Shared→Prop}
theorem lc {b:Bool} {Q:Value→Shared→Prop} (I:Inv X pins σ H s) (e:H a=some (.ins C dx fs)) (c:Cls X.K C) (n:NoAttr X.K C f) (l:fs.lookup f=some v)
  (h:∀ u s',Inv X pins σ H s'→RelV v u→Q u s'):wpAny (model X.prog X.w) A (getAttr (.ref a) f b) Q E s:=by
 obtain ⟨mA,O,r,_,_,_⟩:=h9 I.hok e
 obtain ⟨u,hu,ru⟩:=RelO.some_of (v:=v) (o:=mA f) (by rw [←l];exact r f)
 exact get_map I.kIn O (c.get f) c.hd n hu (handed_of ru) (h u _ (I.tok _) ru)
theorem fM {m:Str} {g:Addr} {pl:Sem Bool} {Q:Value×List Value→Shared→Prop} (I:Inv X pins σ H s) (e:H a=some (.ins C dx fs)) (c:Cls X.K C) (k:Meth X.K C m g) (l:fs.lookup m=none)
  (h:Q (.ref g,[.ref a]) s):wpAny (model X.prog X.w) A (getMethod (.ref a) m pl) Q E s:=by
 obtain ⟨mA,O,r,_,_,_⟩:=h9 I.hok e
 have hn:mA m=none:=RelO.none_of (by rw [←l];exact r m)
 exact get_meth I.kIn O (c.get m) k.at_ k.fn hn h
theorem le {y:V} {u:Value} {Q:Unit→Shared→Prop} (I:Inv X pins σ H s) (e:H a=some (.ins C dx fs)) (c:Cls X.K C) (n:NoAttr X.K C f) (hl:fs.length<1000) (ry:RelV y u)
  (h:∀ s',Inv X pins σ (upd H a (.ins C dx (eL f y fs))) s'→Q () s'):wpAny (model X.prog X.w) A (setAttr (.ref a) f u) Q E s:=by
 obtain ⟨mA,O,r,wi,_,ho⟩:=h9 I.hok e
 have hz:(fs.map (·.1)).length≤sizeLine:=by rw [List.length_map,sizeLine_eq];omega
 refine set_map I.kIn O c.sa c.po n.taker c.hd wi hz fun h' O' sb=>h _ ?_
 have hd:∃ o,h'.get? dx=some o:=let ⟨o,_,_,e',_⟩:=O'.ns;⟨o,e'⟩
 refine I.write (x:=a) (e:=dx) (by rw [e];exact True.intro) (.inr ho) (fun b q hb z=>(sb.2 b hb).trans z) hd ?_
 refine ⟨by rw [ak O.ne];exact ho,?_,O.ne,O'.obj,_,O'.ns,fun g=>?_,fun g hg=>?_⟩
 ·
  have:=gX f y fs;omega
 ·
  show RelO ((eL f y fs).lookup g) (if g=f then some u else mA g)
  rw [gW]
  by_cases q:g=f
  ·
   rw [if_pos q,if_pos q];exact ry
  ·
   rw [if_neg q,if_neg q];exact r g
 ·
  by_cases q:g=f
  ·
   rw [q];exact (gD f y fs).1
  ·
   refine (gD f y fs).2 g (wi g fun z=>hg ?_)
   show (if g=f then some u else mA g)=none
   rw [if_neg q];exact z
theorem Inv.made (I:Inv X pins σ H s):Inv X pins σ (upd (upd H s.heap.objs.size (.own (s.heap.objs.size+1))) (s.heap.objs.size+1) (.ins C s.heap.objs.size []))
  { s with heap:=(s.heap.push emptyDict).push (instObj C s.heap.objs.size) }:=by
 have e1:(s.heap.push emptyDict).get? s.heap.objs.size=some emptyDict:=Heap.get?_push_size s.heap rfl
 have e2:((s.heap.push emptyDict).push (instObj C s.heap.objs.size)).get? (s.heap.objs.size+1)=some (instObj C s.heap.objs.size):=by
  have:=Heap.get?_push_size (s.heap.push emptyDict) (o:=instObj C s.heap.objs.size) rfl
  rwa [Heap.size_push] at this
 have e3:(s.heap.push emptyDict).Ns s.heap.objs.size (fun _=>none):=⟨emptyDict,#[],_,e1,rfl,(fun e he=>absurd he (by simp)),fun _=>rfl⟩
 have I1:=I.laid (a:=s.heap.objs.size) (o:=.own (s.heap.objs.size+1)) (h':=s.heap.push emptyDict) (t':=s.toks) (fun b u q=>Heap.get?_push_of_some _ q) (Nat.le_refl _) ⟨_,e1⟩
 refine I1.laid (a:=s.heap.objs.size+1) (o:=.ins C s.heap.objs.size []) (t':=s.toks) (fun b u q=>Heap.get?_push_of_some _ q) (Nat.le_of_eq (Heap.size_push _ _)) ?_
 have ne:s.heap.objs.size≠s.heap.objs.size+1:=Nat.ne_of_lt (Nat.lt_succ_self _)
 refine ⟨by rw [ak ne,aj],Nat.zero_le _,ne,e2,fun _=>none,(Heap.Ns1.of_empty e3).at fun o q=>Heap.get?_push_of_some _ q,fun _=>True.intro,fun y hy=>absurd rfl hy⟩
theorem attr_of {prog:Program} {w:World} {env:Env} {e:Expr} {f:Str} {pos:Pos} {s:Shared} {Q:Value→Shared→Prop} (hb:attributeBase e f env (eval e env)=eval e env)
  (h:wpAny (model prog w) A (eval e env) (fun o s₁=>wpAny (model prog w) A (getAttr o f true) Q E s₁) E s):wpAny (model prog w) A (eval (.Attribute e f pos) env) Q E s:=
 Attribute_any_ h (by rw [arm_eval_Attribute,hb])
end
def tFld (K:Frag) (ta:TE) (f:Str):TE:=fun σ H Q=>ta σ H fun x H1=>∃ a C dx fs v,x=.ref a∧H1 a=some (.ins C dx fs)∧Cls K C∧NoAttr K C f∧fs.lookup f=some v∧Q v H1
def sFld (K:Frag) (ta tv:TE) (f:Str):TS:=fun D σ H=>tv σ H fun y H1=>ta σ H1 fun x H2=>∃ a C dx fs,x=.ref a∧H2 a=some (.ins C dx fs)∧Cls K C∧NoAttr K C f∧fs.length<1000∧
 D.nx σ (upd H2 a (.ins C dx (eL f y fs)))
section
variable {X:Cx} {o e value:Expr} {f:Str} {pos pos' tpos:Pos} {ta tv:TE}
theorem pe_fld (he:PE X e ta) (hb:attributeBase e f X.env (eval e X.env)=eval e X.env):PE X (.Attribute e f pos) (tFld X.K ta f):=by
 intro pins s σ H Q I h
 refine attr_of hb (thn (he pins s σ H _ I h) fun u s1 ⟨x,H1,I1,rx,a,C,dx,fs,v,ex,ea,c,n,l,q⟩=>?_)
 subst ex
 obtain rfl:u=Value.ref a:=rx
 exact lc I1 ea c n l fun u' s2 I2 ru=>⟨v,H1,I2,ru,q⟩
theorem ps_fld (ha:PE X o ta) (hv:PE X value tv) (hs:swapsWith value (some (.Attribute o f pos')) pos.line X.env=pure false):PS X (.Assign [.Attribute o f pos'] value pos) (sFld X.K ta tv f):=by
 intro pins s σ H D I h
 refine plainObj_wpAny_Assign_Attribute (thn (hv pins s σ H _ I h) fun u s1 ⟨y,H1,I1,ry,q⟩=>thn (ha pins s1 σ H1 _ I1 q) fun ov s2 ⟨x,H2,I2,rx,a,C,dx,fs,ex,ea,c,n,l,q2⟩=>?_) hs
 subst ex
 obtain rfl:ov=Value.ref a:=rx
 exact le I2 ea c n l ry fun s3 I3=>⟨σ,_,I3,q2⟩
theorem methcall_of {pl:Sem Bool} {m:Str} {apos:Pos} {args:List Expr} {pins:List (Addr×Obj)} {s:Shared} {σ:St} {H:Hp} {Q:Value→Shared→Prop} {te:TE} (he:PE X e te) (I:Inv X pins σ H s)
  (h:te σ H fun x H1=>∃ a C dx fs g,x=.ref a∧H1 a=some (.ins C dx fs)∧Cls X.K C∧Meth X.K C m g∧fs.lookup m=none∧
   ∀ s1,Inv X pins σ H1 s1→wpAny (model X.prog X.w) X.A (callWith pos (.ref g) [.ref a] (backTo pos (starEach args X.env)) (backToKw pos (keywordEach [] X.env))) Q X.xe s1)
  (ht:eval (.Call (.Attribute e m apos) args [] pos) X.env=(do
   let ov ←eval e X.env
   standAt apos.atName
   let (f,first) ←holding [ov] (getMethod ov m pl)
   callWith pos f first (backTo pos (starEach args X.env)) (backToKw pos (keywordEach [] X.env)))) :
  wpAny (model X.prog X.w) X.A (eval (.Call (.Attribute e m apos) args [] pos) X.env) Q X.xe s:=by
 refine methodCall_KW (pl:=pl) (thn (he pins s σ H _ I h) fun u s1 ⟨x,H1,I1,rx,a,C,dx,fs,g,ex,ea,c,k,l,q⟩=>?_) ht
 subst ex
 obtain rfl:u=Value.ref a:=rx
 exact fM I1 ea c k l (q s1 I1)
end
section
variable {X:Cx} {pins:List (Addr×Obj)} {σ:St} {H:Hp} {s:Shared} {A:Around} {E:Value→Shared→Prop} {Q:Value→Shared→Prop} {c:Value} {b:Bool}
inductive gb (K:Frag) (H:Hp):V→Value→Prop where
 | non:gb K H .non (.type "NoneType")
 | bl (x:Bool):gb K H (.bl x) (.type "bool")
 | int (i:Int):gb K H (.int i) (.type "int")
 | str (x:Str):gb K H (.str x) (.type "str")
 | flt (x:UInt64):gb K H (.flt x) (.type "float")
 | lst {a:Addr} {xs:List V} (e:H a=some (.lst xs)):gb K H (.ref a) (.type "list")
 | frz {a:Addr} {o:Obj} {xs:List V} (e:H a=some (.frz o (.lst xs))):gb K H (.ref a) (.type "list")
 | tup {a:Addr} {xs:List V} (e:H a=some (.tup xs)):gb K H (.ref a) (.type "tuple")
 | dK {a:Addr} {kvs:List (Key×V)} (e:H a=some (.dK kvs)):gb K H (.ref a) (.type "dict")
 | dT {a:Addr} {kvs:List (List Key×V)} (e:H a=some (.dT kvs)):gb K H (.ref a) (.type "dict")
 | ins {a C dx:Addr} {fs:List (Str×V)} (e:H a=some (.ins C dx fs)) (cl:Cls K C) (ha:findIn K (.ref C) "__class__" = some (some (.builtin "object.__class__")))
  (hn:specialIn K (.builtin "object.__class__") "__get__" = some (some (.builtin "getset_descriptor.__get__"))) (htk:takesIn K (.builtin "object.__class__")=some true)
  (hm:mroIn K C (.type "object")=some true):gb K H (.ref a) (.ref C)
theorem isinst_ok {x:V} {u t:Value} (I:Inv X pins σ H s) (rx:RelV x u) (ty:gb X.K H x t) (e:kitOne X.K t c=some b) (h:∀ tk,Q (.bool b) { s with toks:=tk }) :
  wpAny (model X.prog X.w) A (call (.builtin "isinstance") [u,c]) Q E s:=by
 cases ty with
 | non=>cases (show u=Value.none from rx);exact kia_one PySem.W.kitx_none I.kIn True.intro e (fun z=>nomatch z) h
 | bl y=>cases (show u=Value.bool y from rx);exact kia_one PySem.W.kitx_bool I.kIn True.intro e (fun z=>nomatch z) h
 | int i=>obtain ⟨t,q⟩:=(show ∃ t,u=Value.int i t from rx);cases q;exact kia_one PySem.W.kitx_int I.kIn True.intro e (fun z=>nomatch z) h
 | str y=>obtain ⟨t,q⟩:=(show ∃ t,u=Value.str y t from rx);cases q;exact kia_one PySem.W.kitx_str I.kIn True.intro e (fun z=>nomatch z) h
 | flt y=>obtain ⟨t,q⟩:=(show ∃ t,u=Value.float y t from rx);cases q;exact kia_one PySem.W.kitx_float I.kIn True.intro e (fun z=>nomatch z) h
 | @lst a xs ea=>
  cases (show u=Value.ref a from rx)
  obtain ⟨_,_,n,_,h1⟩:=(show bE X.prog X.w H s.heap a (.lst xs) from I.hok a _ ea)
  exact kia_one kitx_list I.kIn ⟨_,h1,rfl⟩ e (fun z=>nomatch z) h
 | @frz a ob xs ea=>
  cases (show u=Value.ref a from rx)
  obtain ⟨_,_,_,n,_,h1⟩:=(show bE X.prog X.w H s.heap a (.frz ob (.lst xs)) from I.hok a _ ea)
  exact kia_one kitx_list I.kIn ⟨_,h1,rfl⟩ e (fun z=>nomatch z) h
 | @tup a xs ea=>
  cases (show u=Value.ref a from rx)
  obtain ⟨_,_,_,p⟩:=(show bE X.prog X.w H s.heap a (.tup xs) from I.hok a _ ea)
  obtain ⟨o,h1,h2,_⟩:=p
  exact kia_one PySem.W.kitx_tuple I.kIn ⟨o,h1,h2⟩ e (fun z=>nomatch z) h
 | @dK a kvs ea=>
  cases (show u=Value.ref a from rx)
  obtain ⟨_,_,vs,_,p⟩:=(show bE X.prog X.w H s.heap a (.dK kvs) from I.hok a _ ea)
  obtain ⟨o,es,ep,h1,h2,_⟩:=p
  exact kia_one kitx_dict I.kIn ⟨o,h1,h2.1⟩ e (fun z=>nomatch z) h
 | @dT a kvs ea=>
  cases (show u=Value.ref a from rx)
  obtain ⟨_,_,xs,_,o,es,ep,h1,h2,_⟩:=(show bE X.prog X.w H s.heap a (.dT kvs) from I.hok a _ ea)
  exact kia_one kitx_dict I.kIn ⟨o,h1,h2.1⟩ e (fun z=>nomatch z) h
 | @ins a C dx fs ea cl ha hn htk hm=>
  cases (show u=Value.ref a from rx)
  obtain ⟨mA,O,_⟩:=h9 I.hok ea
  obtain ⟨od,J,_⟩:=O.look
  exact kia_one (PySem.W.kitx_own (cl.get _) cl.hd ha hn htk hm) I.kIn J e (fun z=>nomatch z) h
end
end L2
namespace L2
open PySem PySem.Spec PyProof.Rows
structure aQ (k:Nat) (A:Around):Prop where
 hd:A.handled=none
 dp:A.depth+3*k+5<recursionLimit
 un:A.units+16*k+200<cLine
theorem aQ.mono {j k:Nat} {A:Around} (r:aQ k A) (h:j≤k):aQ j A:=⟨r.hd,by have:=r.dp;omega,by have:=r.un;omega⟩
theorem aQ.deeper {k:Nat} {A:Around} (r:aQ (k+1) A) (env:Env):aQ k (A.deeper env):=
 ⟨r.hd,by have:=r.dp;show A.depth+1+3*k+5<_;omega,by have:=r.un;show A.units+3+16*k+200<_;omega⟩
theorem lf {A:Around} {C:Addr} {us:List Value} {kw:List (Str×Value)}:(A.under (.builtin "type.__call__" ⟨.ref C::us,kw⟩)).depth=A.depth+1:=by
 first | rfl | simp [Around.under,Code.weight,Code.isCreation,Code.isGuard,Code.isCaller,Code.frames,Code.isFrame,guardIds]
theorem lg {A:Around} {C:Addr} {us:List Value} {kw:List (Str×Value)}:(A.under (.builtin "type.__call__" ⟨.ref C::us,kw⟩)).units=A.units+1:=by
 first | rfl | simp [Around.under,Code.cUnits,Code.frames,Code.isFrame]
theorem aQ.make {k:Nat} {A:Around} (r:aQ (k+1) A) (C:Addr) (us:List Value) (kw:List (Str×Value)):aQ k (A.under (.builtin "type.__call__" ⟨.ref C::us,kw⟩)):=
 ⟨r.hd,by have:=r.dp;rw [lf];omega,by have:=r.un;rw [lg];omega⟩
theorem aQ.depth {k:Nat} {A:Around} (r:aQ k A):A.depth<recursionLimit:=by have:=r.dp;omega
def tNil:TA:=fun _ H Q=>Q [] H
def tCons (ta:TE) (tr:TA):TA:=fun σ H Q=>ta σ H fun x H1=>tr σ H1 fun xs H2=>Q (x::xs) H2
section
variable {X:Cx} {e:Expr} {es:List Expr} {te:TE} {t:TA} {pos:Pos}
theorem cr:PA X [] tNil:=fun _ _ _ _ H Q I h=>Calls.spliced_nil ⟨[],H,I,.nil,h⟩
theorem a5 (ha:PE X e te) (hr:PA X es t) (hs:starEach (e::es) X.env=(false,eval e X.env)::starEach es X.env:=by rfl):PA X (e::es) (tCons te t):=by
 intro pos pins s σ H Q I h
 rw [hs]
 show wpAny _ _ (spliced ((false,eval e X.env)::backTo pos (starEach es X.env))) _ _ s
 refine Calls.spliced_cons (thn (ha pins s σ H _ I h) fun u s1 ⟨x,H1,I1,r1,q1⟩=>?_)
 exact thn (hr pos pins s1 σ H1 _ I1 q1) fun us s2 ⟨xs,H2,I2,r2,q2⟩=>⟨x::xs,H2,I2,.cons r1 r2,q2⟩
def tTup (t:TA):TE:=fun σ H Q=>t σ H fun xs H1=>xs.length≤sizeLine∧∀ p,H1 p=none→Q (.ref p) (upd H1 p (.tup xs))
def tLst (t:TA):TE:=fun σ H Q=>t σ H fun xs H1=>xs.length≤sizeLine∧∀ p,H1 p=none→Q (.ref p) (upd H1 p (.lst xs))
theorem pe_tup {x1} (h:PA X es t):PE X (.Tuple es x1 pos) (tTup t):=by
 intro pins s σ H Q I hq
 refine wpAny_Tuple_spliced (thn (h pos pins s σ H _ I hq) fun us s1 ⟨xs,H1,I1,r,z,q⟩=>⟨by rw [←r.length];exact z,?_⟩)
 have hf:H1 s1.heap.objs.size=none:=I1.hok.fresh (Nat.le_refl _)
 refine ⟨.ref s1.heap.objs.size,upd H1 s1.heap.objs.size (.tup xs),I1.laid (t':=s1.toks) (fun b u e=>Heap.get?_push_of_some _ e) (Nat.le_refl _) ?_,rfl,q _ hf⟩
 exact ⟨z,us,r,⟨_,Heap.get?_push_size _ rfl,rfl,_,rfl⟩⟩
theorem pe_lst (h:PA X es t):PE X (.List es pos) (tLst t):=by
 intro pins s σ H Q I hq
 refine wpAny_List_spliced (thn (h pos pins s σ H _ I hq) fun us s1 ⟨xs,H1,I1,r,z,q⟩=>⟨by rw [←r.length];exact z,?_⟩)
 have hf:H1 s1.heap.objs.size=none:=I1.hok.fresh (Nat.le_refl _)
 refine ⟨.ref s1.heap.objs.size,upd H1 s1.heap.objs.size (.lst xs),I1.laid (t':=s1.toks) (fun b u e=>Heap.get?_push_of_some _ e) (Nat.le_refl _) ?_,rfl,q _ hf⟩
 exact ⟨z,us,0,r,Heap.get?_push_size _ rfl⟩
end
abbrev Sp:=List V→Hp→VK→XK→Prop
abbrev CXT:=List Env→Hp→Shared→XK→Value→Shared→Prop
structure Env0 (P:Program) (w:World) (K:Frag) (mg:Str→Option Value) (base:Heap) (A:Around) (outer:List Env) (s:Shared) (H:Hp):Prop where
 frames:A.frames=some outer
 mod:Mod K mg base
 bs:∀ b o,base.get? b=some o→s.heap.get? b=some o∧H b=none
 bsz:base.objs.size≤s.heap.objs.size
 funs:s.heap.FunFrames base outer
 frf:∀ b∈frs outer,H b=none
 hok:HOk P w H s.heap
 bare:AllBare s.gens
def CE (outer:List Env) (P:Program) (w:World) (H:Hp) (s:Shared) (Q:VK) (u:Value) (s':Shared):Prop:=
 ∃ v H',s'.os=s.os∧AllBare s'.gens∧Un (frs outer) [] H H' s.heap s'.heap∧HOk P w H' s'.heap∧RelV v u∧Q v H'
def CR (CX:CXT) (outer:List Env) (P:Program) (w:World) (H:Hp) (s:Shared) (Q:VK) (E:XK) (r:Result) (s':Shared):Prop:=
 match r with
 | .ok (.ret u)=>CE outer P w H s Q u s'
 | .ok _=>False
 | .error e=>CX outer H s E e s'
structure bO (P:Program) (w:World) (K:Frag) (mg:Str→Option Value) (base:Heap) (CX:CXT) (k:Nat) (f:Addr) (fd:FuncData) (ps:List Str) (sp:Sp):Prop where
 len:∀ vs H Q E,sp vs H Q E→vs.length=ps.length
 run:∀ (A:Around) (outer:List Env) (s:Shared) (H:Hp) (args:Args) (us:List Value) (vs:List V) (Q:VK) (E:XK),aQ k A→Env0 P w K mg base A outer s H→BindsTo s fd args (ps.zip us)→aA vs us→sp vs H Q E→
  codeAny (model P w) A (.call (.ref f) args) (CR CX outer P w H s Q E) s
theorem bO.imp {P:Program} {w:World} {K:Frag} {mg:Str→Option Value} {base:Heap} {CX:CXT} {k:Nat} {f:Addr} {fd:FuncData} {ps:List Str} {sp sp':Sp} (F:bO P w K mg base CX k f fd ps sp)
  (h:∀ vs H Q E,sp' vs H Q E→sp vs H Q E):bO P w K mg base CX k f fd ps sp':=
 ⟨fun vs H Q E q=>F.len vs H Q E (h _ _ _ _ q),fun A outer s H args us vs Q E hr he hb hv hs=>F.run A outer s H args us vs Q E hr he hb hv (h _ _ _ _ hs)⟩
theorem Env0.make {P:Program} {w:World} {K:Frag} {mg:Str→Option Value} {base:Heap} {A:Around} {outer:List Env} {s:Shared} {H:Hp} (e:Env0 P w K mg base A outer s H) (C:Addr) (us:List Value) (kw:List (Str×Value)) :
 Env0 P w K mg base (A.under (.builtin "type.__call__" ⟨.ref C::us,kw⟩)) outer s H:=⟨by first | exact e.frames | (simpa [Around.under,Code.envs,Code.isFrame,pushEnvs] using e.frames),e.mod,e.bs,e.bsz,e.funs,e.frf,e.hok,e.bare⟩
section
variable {X:Cx} {pins:List (Addr×Obj)} {σ:St} {H:Hp} {s s':Shared}
theorem Inv.env0 (I:Inv X pins σ H s):Env0 X.prog X.w X.K X.mg X.base X.A X.stack s H:=
 ⟨I.ok.frames,I.ok.mod,I.bs,Nat.le_trans I.ok.bsz I.sz,I.stack,I.stkFree,I.hok,I.bare⟩
theorem Inv.after {Q:VK} {u:Value} (I:Inv X pins σ H s) (h:CE X.stack X.prog X.w H s Q u s'):EP X pins σ Q u s':=by
 obtain ⟨v,H',os,bare,un,hok,r,q⟩:=h
 obtain ⟨hh,g,d,t,os'⟩:=s'
 obtain rfl:os'=s.os:=os
 exact ⟨v,H',I.call (h':=hh) (g':=g) (d':=d) (t':=t) (ch:=[]) un hok bare (fun b z=>absurd z (by simp)),r,q⟩
end
def tCall (sp:Sp) (dvs:List V) (E:XK) (t:TA):TE:=fun σ H Q=>t σ H fun vs H1=>sp (vs++dvs) H1 Q E
def tMeth (C:Addr) (m:Str) (sp:Sp) (dvs:List V) (E:XK) (ta:TE) (t:TA):TE:=fun σ H Q=>ta σ H fun x H1=>∃ a dx fs,x=.ref a∧H1 a=some (.ins C dx fs)∧fs.lookup m=none∧
 t σ H1 fun vs H2=>sp (x::(vs++dvs)) H2 Q E
def tMake (C:Addr) (sp:Sp) (dvs:List V) (E:XK) (t:TA):TE:=fun σ H Q=>t σ H fun vs H1=>∀ x dx,H1 x=none→H1 dx=none→dx≠x→
 sp (.ref x::(vs++dvs)) (upd (upd H1 dx (.own x)) x (.ins C dx [])) (fun v H2=>v=.non∧Q (.ref x) H2) E
def Binds (K:Frag) (fd:FuncData) (ps:List Str) (ds:List Value):Prop:=
 ∀ (s:Shared) (us:List Value),K.In s.heap→(us++ds).length=ps.length→BindsTo s fd ⟨us,[]⟩ (ps.zip (us++ds))
theorem Binds.all {K:Frag} {fd:FuncData} {ps:List Str} (h:∀ us:List Value,us.length=ps.length→bindArgs fd ⟨us,[]⟩=pure (ps.zip us)):Binds K fd ps []:=fun s us _ hl=>by
 rw [List.append_nil] at hl ⊢
 exact .of_eq (h us hl)
def bW (CX:CXT) (X:Cx) (E:XK):Prop:=∀ (pins:List (Addr×Obj)) (σ:St) (H:Hp) (s:Shared) (e:Value) (s':Shared),Inv X pins σ H s→CX X.stack H s E e s'→X.xe e s'
section
variable {X:Cx} {CX:CXT} {k:Nat} {f C:Addr} {fd:FuncData} {ps:List Str} {sp:Sp} {dvs:List V} {ds:List Value} {E:XK} {x m:Str} {p pos apos:Pos} {e o:Expr} {es:List Expr} {ta:TE} {t:TA}
theorem jC {pins:List (Addr×Obj)} {σ:St} {H:Hp} {s:Shared} {Q:VK} {us:List Value} {vs:List V} (F:bO X.prog X.w X.K X.mg X.base CX k f fd ps sp) (hr:aQ k X.A) (hb:Binds X.K fd ps ds) (hd:aA dvs ds) (hx:bW CX X E)
  (I:Inv X pins σ H s) (r:aA vs us) (h:sp (vs++dvs) H Q E):wpAny (model X.prog X.w) X.A (call (.ref f) us) (EP X pins σ Q) X.xe s:=by
 have r2:aA (vs++dvs) (us++ds):=r.append hd
 have hl:(us++ds).length=ps.length:=by rw [←r2.length];exact F.len _ _ _ _ h
 refine wpAny_call (codeAny_mono (F.run X.A X.stack s H ⟨us,[]⟩ (us++ds) (vs++dvs) Q E hr I.env0 (hb s us I.kIn hl) r2 h) fun r s' hq=>?_)
 cases r with
 | error e=>exact hx pins σ H s e s' I hq
 | ok fl=>
  cases fl with
  | ret u=>exact I.after hq
  | next=>exact False.elim hq
  | brk=>exact False.elim hq
  | cont=>exact False.elim hq
theorem ia (F:bO X.prog X.w X.K X.mg X.base CX k f fd ps sp) (hr:aQ k X.A) (hg:Gl X x) (hm:X.mg x=some (.ref f)) (hk:keepIn X.K (.ref f)=true) (hb:Binds X.K fd ps ds) (hd:aA dvs ds) (hx:bW CX X E)
  (ha:PA X (e::es) t) (hdb:(x==("__debug__" : Str))=false:=by decide) (he:starEach (e::es) X.env=(false,eval e X.env)::starEach es X.env:=by rfl) (hpl:(backTo pos (starEach es X.env)).any (·.1)=false:=by rfl) :
  PE X (.Call (.Name x p) (e::es) [] pos) (tCall sp dvs E t):=by
 intro pins s σ H Q I h
 refine wpAny_Call_Name_kw (cK I hg hm ?_ hdb)
 refine callWith_K (h₀:=X.base) I.ok.mod.kin hk (thn (ha pos pins s σ H _ I h) fun us s1 ⟨vs,H1,I1,r,q⟩=>⟨I1.kIn,?_⟩) he hpl
 exact jC F hr hb hd hx I1 r q
theorem pe_call0 (F:bO X.prog X.w X.K X.mg X.base CX k f fd ps sp) (hr:aQ k X.A) (hg:Gl X x) (hm:X.mg x=some (.ref f)) (hk:keepIn X.K (.ref f)=true) (hb:Binds X.K fd ps ds) (hd:aA dvs ds) (hx:bW CX X E)
  (hdb:(x==("__debug__" : Str))=false:=by decide):PE X (.Call (.Name x p) [] [] pos) (tCall sp dvs E tNil):=by
 intro pins s σ H Q I h
 refine wpAny_Call_Name_kw (cK I hg hm ?_ hdb)
 exact callWith_K0 I.kIn hk (jC (us:=[]) F hr hb hd hx I .nil h)
theorem pe_meth {pl:Sem Bool} (he:PE X o ta) (c:Cls X.K C) (hm:Meth X.K C m f) (F:bO X.prog X.w X.K X.mg X.base CX k f fd ps sp) (hr:aQ k X.A) (hb:Binds X.K fd ps ds) (hd:aA dvs ds) (hx:bW CX X E) (ha:PA X (e::es) t)
  (hst:starEach (e::es) X.env=(false,eval e X.env)::starEach es X.env:=by rfl) (hpl:(backTo pos (starEach es X.env)).any (·.1)=false:=by rfl)
  (ht:eval (.Call (.Attribute o m apos) (e::es) [] pos) X.env=(do
   let ov ←eval o X.env
   standAt apos.atName
   let (f,first) ←holding [ov] (getMethod ov m pl)
   callWith pos f first (backTo pos (starEach (e::es) X.env)) (backToKw pos (keywordEach [] X.env))):=by rfl) :
  PE X (.Call (.Attribute o m apos) (e::es) [] pos) (tMeth C m sp dvs E ta t):=by
 intro pins s σ H Q I h
 refine methodCall_KW (pl:=pl) (thn (he pins s σ H _ I h) fun u s1 ⟨x,H1,I1,rx,a,dx,fs,ex,ea,l,q⟩=>?_) ht
 subst ex
 obtain rfl:u=Value.ref a:=rx
 refine fM I1 ea c hm l ?_
 refine callWith_K (first:=[.ref a]) (h₀:=X.base) I.ok.mod.kin hm.kp (thn (ha pos pins s1 σ H1 _ I1 q) fun us s2 ⟨vs,H2,I2,r,q2⟩=>⟨I2.kIn,?_⟩) hst hpl
 exact jC (us:=.ref a::us) (vs:=.ref a::vs) F hr hb hd hx I2 (.cons rfl r) q2
theorem pe_meth0 {pl:Sem Bool} (he:PE X o ta) (c:Cls X.K C) (hm:Meth X.K C m f) (F:bO X.prog X.w X.K X.mg X.base CX k f fd ps sp) (hr:aQ k X.A) (hb:Binds X.K fd ps ds) (hd:aA dvs ds) (hx:bW CX X E)
  (ht:eval (.Call (.Attribute o m apos) [] [] pos) X.env=(do
   let ov ←eval o X.env
   standAt apos.atName
   let (f,first) ←holding [ov] (getMethod ov m pl)
   callWith pos f first (backTo pos (starEach [] X.env)) (backToKw pos (keywordEach [] X.env))):=by rfl) :
  PE X (.Call (.Attribute o m apos) [] [] pos) (tMeth C m sp dvs E ta tNil):=by
 intro pins s σ H Q I h
 refine methodCall_KW (pl:=pl) (thn (he pins s σ H _ I h) fun u s1 ⟨x,H1,I1,rx,a,dx,fs,ex,ea,l,q⟩=>?_) ht
 subst ex
 obtain rfl:u=Value.ref a:=rx
 refine fM I1 ea c hm l ?_
 exact callWith_K0 (first:=[.ref a]) I1.kIn hm.kp (jC (us:=[.ref a]) (vs:=[.ref a]) F hr hb hd hx I1 (.cons rfl .nil) q)
structure Mk (K:Frag) (C f:Addr):Prop where
 makes:makesIn K C=true
 init:findIn K (.ref C) "__init__" = some (some (.ref f))
 fn:isFn K (.ref f)=true
 kp:keepIn K (.ref C)=true
theorem run_make {pins:List (Addr×Obj)} {σ:St} {H:Hp} {s:Shared} {Q:VK} {us:List Value} {vs:List V} (M:Mk X.K C f) (F:bO X.prog X.w X.K X.mg X.base CX k f fd ps sp) (hr:aQ (k+1) X.A) (hb:Binds X.K fd ps ds) (hd:aA dvs ds)
  (hx:bW CX X E) (I:Inv X pins σ H s) (r:aA vs us)
  (h:∀ x dx,H x=none→H dx=none→dx≠x→sp (.ref x::(vs++dvs)) (upd (upd H dx (.own x)) x (.ins C dx [])) (fun v H2=>v=.non∧Q (.ref x) H2) E) :
  wpAny (model X.prog X.w) X.A (call (.ref C) us) (EP X pins σ Q) X.xe s:=by
 have hq:=h (s.heap.objs.size+1) s.heap.objs.size (I.hok.fresh (Nat.le_succ _)) (I.hok.fresh (Nat.le_refl _)) (Nat.ne_of_lt (Nat.lt_succ_self _))
 have I2:=Inv.made (C:=C) I
 have r2:aA (V.ref (s.heap.objs.size+1)::(vs++dvs)) (Value.ref (s.heap.objs.size+1)::(us++ds)):=.cons rfl (r.append hd)
 have hl:(Value.ref (s.heap.objs.size+1)::us++ds).length=ps.length:=by
  have e:=r2.length
  rw [F.len _ _ _ _ hq] at e
  exact e.symm
 refine wpAny_call (make_map (f:=f) I.kIn M.makes M.init (beq_iff_eq.mp M.fn) (codeAny_mono (F.run _ X.stack _ _ ⟨Value.ref (s.heap.objs.size+1)::us,[]⟩ (Value.ref (s.heap.objs.size+1)::(us++ds)) _ _ E (hr.make C us [])
  (I2.env0.make C us []) (hb _ (Value.ref (s.heap.objs.size+1)::us) I2.kIn hl) r2 hq) fun r s' hq'=>?_))
 cases r with
 | error e=>exact hx pins σ _ _ e s' I2 hq'
 | ok fl=>
  cases fl with
  | ret u=>
   obtain ⟨v,H',I3,rv,ev,q3⟩:=I2.after hq'
   subst ev
   exact ⟨rv,⟨V.ref (s.heap.objs.size+1),H',I3,rfl,q3⟩⟩
  | next=>exact False.elim hq'
  | brk=>exact False.elim hq'
  | cont=>exact False.elim hq'
theorem pe_make (M:Mk X.K C f) (F:bO X.prog X.w X.K X.mg X.base CX k f fd ps sp) (hr:aQ (k+1) X.A) (hg:Gl X x) (hm:X.mg x=some (.ref C)) (hb:Binds X.K fd ps ds) (hd:aA dvs ds) (hx:bW CX X E)
  (ha:PA X (e::es) t) (hdb:(x==("__debug__" : Str))=false:=by decide) (he:starEach (e::es) X.env=(false,eval e X.env)::starEach es X.env:=by rfl) (hpl:(backTo pos (starEach es X.env)).any (·.1)=false:=by rfl) :
  PE X (.Call (.Name x p) (e::es) [] pos) (tMake C sp dvs E t):=by
 intro pins s σ H Q I h
 refine wpAny_Call_Name_kw (cK I hg hm ?_ hdb)
 refine callWith_K (h₀:=X.base) I.ok.mod.kin M.kp (thn (ha pos pins s σ H _ I h) fun us s1 ⟨vs,H1,I1,r,q⟩=>⟨I1.kIn,?_⟩) he hpl
 exact run_make M F hr hb hd hx I1 r q
end
structure bU (N P:List Str) (sc:Scope):Prop where
 kind:sc.kind=.function
 co:sc.isCoroutine=false
 gen:sc.isGenerator=false
 nd:N.Nodup
 pre:N.take P.length=P
 par:∀ x∈P,sc.names.lookup x=some .local∨sc.names.lookup x=some .cell
 nofree:∀ y∈sc.names,y.2≠.free
theorem i9 {kindOf:Str→Option NameKind} {x:Str}:∀ {binds:List (Str×Value)} {m:Str→Option Value},(∀ v,(x,v)∉binds)→bindL kindOf binds m x=m x
  | [],_,_=>rfl
  | (n,v)::r,m,h=>by
    unfold bindL
    rw [i9 fun w hw=>h w (List.mem_cons_of_mem _ hw)]
    split
    · have:x≠n:=by rintro rfl;exact h v List.mem_cons_self
      simp [this]
    · rfl
theorem ja {kindOf:Str→Option NameKind} {x:Str}:∀ {binds:List (Str×Value)} {m:Str→Option Value},(∀ v,(x,v)∉binds)→bindC kindOf binds m x=m x
  | [],_,_=>rfl
  | (n,v)::r,m,h=>by
    unfold bindC
    rw [ja fun w hw=>h w (List.mem_cons_of_mem _ hw)]
    split
    · rfl
    · have:x≠n:=by rintro rfl;exact h v List.mem_cons_self
      simp [this]
theorem jb {kindOf:Str→Option NameKind} {x:Str} {v:Value}:∀ {P:List Str} {vs:List Value} {i:Nat} {m:Str→Option Value},P.Nodup→P[i]?=some x→vs[i]?=some v→kindOf x=some .local→
  bindL kindOf (P.zip vs) m x=some v
 | [],_,_,_,_,h,_,_=>by simp at h
 | _::_,[],_,_,_,_,h,_=>by simp at h
 | p::P,w::vs,0,m,nd,h1,h2,hk=>by
  simp at h1 h2;subst h1;subst h2
  show bindL kindOf ((p,w)::P.zip vs) m p=_
  unfold bindL
  rw [i9 fun v hv=>(List.nodup_cons.mp nd).1 (List.of_mem_zip hv).1,if_pos hk]
  simp
 | p::P,w::vs,i+1,m,nd,h1,h2,hk=>by
  show bindL kindOf ((p,w)::P.zip vs) m x=_
  unfold bindL
  exact jb (i:=i) (List.nodup_cons.mp nd).2 (by simpa using h1) (by simpa using h2) hk
theorem jc {kindOf:Str→Option NameKind} {x:Str} {v:Value}:∀ {P:List Str} {vs:List Value} {i:Nat} {m:Str→Option Value},P.Nodup→P[i]?=some x→vs[i]?=some v→kindOf x≠some .local→
  bindC kindOf (P.zip vs) m x=some v
 | [],_,_,_,_,h,_,_=>by simp at h
 | _::_,[],_,_,_,_,h,_=>by simp at h
 | p::P,w::vs,0,m,nd,h1,h2,hk=>by
  simp at h1 h2;subst h1;subst h2
  show bindC kindOf ((p,w)::P.zip vs) m p=_
  unfold bindC
  rw [ja fun v hv=>(List.nodup_cons.mp nd).1 (List.of_mem_zip hv).1,if_neg hk]
  simp
 | p::P,w::vs,i+1,m,nd,h1,h2,hk=>by
  show bindC kindOf ((p,w)::P.zip vs) m x=_
  unfold bindC
  exact jc (i:=i) (List.nodup_cons.mp nd).2 (by simpa using h1) (by simpa using h2) hk
def start (N:List Str) (vs:List V):St:=vs.map some++List.replicate (N.length-vs.length) none
def dP (CX:CXT) (P:Program) (w:World) (K:Frag) (mg:Str→Option Value) (base:Heap) (N:List Str) (qual:Str) (scope:Scope) (f:Addr) (cd:Value) (A:Around) (outer:List Env) (s:Shared) (H:Hp) (E:XK):Cx where
 prog:=P
 w:=w
 K:=K
 mg:=mg
 base:=base
 A:=A.deeper (envOfC qual scope s.heap.objs.size f cd)
 N:=N
 s₀:=s
 H₀:=H
 env:=envOfC qual scope s.heap.objs.size f cd
 outer:=outer
 stack:=envOfC qual scope s.heap.objs.size f cd::outer
 ex:=[]
 calm:=true
 fn:=fun _=>true
 pn:=[]
 xe:=fun e s'=>wpAny (model P w) (A.deeper (envOfC qual scope s.heap.objs.size f cd)) (leaving (envOfC qual scope s.heap.objs.size f cd) e) (fun _ s''=>CX outer H s E e s'') (fun e' s''=>CX outer H s E e' s'') s'
theorem kg {sc:Scope} {n:Nat} {x:Str} (h:sc.names.lookup x=some .cell):∃ c,(cellsFrom n sc.names []).lookup x=some c:=by
 have q:=cellsFrom_some sc.names n [] (.inl h)
 exact Option.isSome_iff_exists.mp q
theorem inv_start {CX:CXT} {P:Program} {w:World} {K:Frag} {mg:Str→Option Value} {base:Heap} {N ps:List Str} {qual:Str} {scope:Scope} {f:Addr} {cd:Value} {A:Around} {outer:List Env} {s s1:Shared} {H:Hp} {E:XK} {us:List Value} {vs:List V}
  (S:bU N ps scope) (hd:A.handled=none) (e0:Env0 P w K mg base A outer s H) (hl:vs.length=ps.length) (r:aA vs us)
  (x:InCallC s s.heap.objs.size (bindL (envOfC qual scope s.heap.objs.size f cd).kindOf (ps.zip us) fun _=>none) (cellsFrom (s.heap.objs.size+1) scope.names []) (bindC (envOfC qual scope s.heap.objs.size f cd).kindOf (ps.zip us) fun _=>none) s1) :
  Inv (dP CX P w K mg base N qual scope f cd A outer s H E) [] (start N vs) H s1:=by
 have hpl:ps.length≤N.length:=by have:=congrArg List.length S.pre;rw [List.length_take] at this;omega
 obtain ⟨h1,tk,rfl,hk⟩:=x.done
 have noA:∀ b:Addr,b∉(dP CX P w K mg base N qual scope f cd A outer s H E).ex:=fun b z=>absurd (show b∈([]:List Addr) from z) (by simp)
 refine ⟨⟨e0.mod,S.kind,rfl,rfl,Nat.le_refl _,fun y z c h1 h2=>?_,fun y hy=>?_,fun y c _ h=>?_,fun _=>hd,Around.frames_deeper e0.frames,.inr ⟨rfl,rfl⟩,fun b z=>absurd z (noA b),e0.bs,e0.bsz,fun b _ _=>noA b,fun b z=>absurd z (noA b),e0.funs,e0.frf⟩,
  rfl,e0.bare,Un.kept hk,⟨_,x.toInCall.ns,fun i y v h1 h2 h3=>?_⟩,fun y c h=>⟨_,x.cell y c h⟩,e0.hok.fresh (Nat.le_refl _),fun y c h=>?_,fun p hp=>absurd (show p∈([]:List (Addr×Obj)) from hp) (by simp),e0.hok.kept hk,?_⟩
 ·
  exact name_of_addr x.apart (PySem.mem_of_lookup h1) (PySem.mem_of_lookup h2)
 ·
  have hy:scope.names.lookup y=some .cell∨scope.names.lookup y=some .free:=hy
  rcases hy with hy | hy
  ·
   exact kg hy
  ·
   exact absurd rfl (S.nofree _ (PySem.mem_of_lookup hy))
 ·
  exact Nat.le_of_lt (x.above y c (PySem.mem_of_lookup h))
 ·
  have hi:i<vs.length:=by
   unfold start at h2
   by_cases hi:i<vs.length
   ·
    exact hi
   ·
    rw [List.getElem?_append_right (by simpa using hi)] at h2
    rw [List.getElem?_replicate] at h2
    split at h2 <;> cases h2
  have ha:vs[i]?=some v:=by
   unfold start at h2
   rw [List.getElem?_append_left (by simpa using hi),List.getElem?_map] at h2
   cases e:vs[i]? with
   | none=>rw [e] at h2;cases h2
   | some a=>rw [e] at h2;cases h2;rfl
  obtain ⟨u,hu,rv⟩:=r.get ha
  have hp:ps[i]?=some y:=by
   rw [←S.pre,List.getElem?_take_of_lt (by omega)];exact h1
  have ndP:ps.Nodup:=by rw [←S.pre];exact S.nd.sublist (List.take_sublist _ _)
  refine ⟨u,rv,?_⟩
  rcases S.par y (List.mem_of_getElem? hp) with k | k
  ·
   exact .inl ⟨k,jb ndP hp hu k⟩
  ·
   obtain ⟨c,e⟩:=kg (n:=s.heap.objs.size+1) k
   refine .inr ⟨.inl k,c,e,?_⟩
   have q:=x.cell y c e
   rw [jc ndP hp hu (by show scope.names.lookup y≠_;rw [k];decide)] at q
   exact q
 ·
  exact e0.hok.fresh (Nat.le_of_lt (x.above y c (PySem.mem_of_lookup h)))
 ·
  unfold start
  show _=N.length
  rw [List.length_append,List.length_map,List.length_replicate]
  omega
theorem fn_of {CX:CXT} {P:Program} {w:World} {K:Frag} {mg:Str→Option Value} {base:Heap} {k:Nat} {f:Addr} {name qual:Str} {params:Arguments} {body:List Stmt} {scope:Scope} {dV kV doc pm cdv ct oc:Value} {an od:Option Addr}
  {osl:Array (Option Value)} {N ps:List Str} {sp:Sp} (lk:K.lookup f=some ⟨oc,od,.func (fnOf name qual params body scope dV kV doc pm an cdv ct),osl⟩) (hcd:codeIn K cdv qual=true) (S:bU N ps scope)
  (len:∀ vs H Q E,sp vs H Q E→vs.length=ps.length)
  (hbody:∀ (A:Around) (outer:List Env) (s:Shared) (H:Hp) (vs:List V) (Q:VK) (E:XK),aQ k (A.deeper (envOfC qual scope s.heap.objs.size f cdv))→sp vs H Q E→
   ∃ t,PSs (dP CX P w K mg base N qual scope f cdv A outer s H E) body t∧t { nx:=fun _ H'=>Q .non H',rt:=Q } (start N vs) H) :
  bO P w K mg base CX (k+1) f (fnOf name qual params body scope dV kV doc pm an cdv ct) ps sp:=by
 refine ⟨len,fun A outer s H args us vs Q E hr e0 hb r hsp=>?_⟩
 have hl:=len _ _ _ _ hsp
 have KX:K.In s.heap:=e0.mod.kin.keeps fun b o e=>(e0.bs b o e).1
 have lim:s.heap.NoLimit:=e0.mod.nolimit.keeps fun b o e=>(e0.bs b o e).1
 have hkind:∀ y∈ps.zip us,scope.names.lookup y.1=some .local∨(scope.names.lookup y.1=some .cell∧((cellsFrom (s.heap.objs.size+1) scope.names []).lookup y.1).isSome=true):=fun ⟨n,v⟩ hy=>by
  rcases S.par n (List.of_mem_zip hy).1 with q | q
  ·
   exact .inl q
  ·
   exact .inr ⟨q,cellsFrom_some _ _ _ (.inl q)⟩
 refine codeAny_call_function hr.depth (KX _ _ lk) rfl S.co S.gen rfl (PySem.W.codeRec_of KX hcd) (hb _ _ _ _ ?_)
 refine wpAny_newFunctionEnv_cells S.kind hkind fun env he s1 x=>?_
 subst he
 refine ⟨lim.keeps x.toInCall.keep,codeAny_func ?_⟩
 obtain ⟨t,ht,hq⟩:=hbody A outer s H vs Q E (hr.deeper _) hsp
 have I:Inv (dP CX P w K mg base N qual scope f cdv A outer s H E) [] (start N vs) H s1:=inv_start S hr.hd e0 hl r x
 refine wpAny_mono (ht [] s1 (start N vs) H _ I hq) (fun fl s' hs=>?_) fun e s' hs=>hs
 have fin:∀ {σ':St} {H':Hp} {v:V} {u:Value},Inv (dP CX P w K mg base N qual scope f cdv A outer s H E) [] σ' H' s'→RelV v u→Q v H'→CE outer P w H s Q u s':=
  fun {σ' H' v u} J rv q=>⟨v,H',J.os,J.bare,J.base,J.hok,rv,q⟩
 cases fl with
 | ret u=>
  obtain ⟨v,σ',H',J,rv,q⟩:=hs
  exact fin J rv q
 | next=>
  obtain ⟨σ',H',J,q⟩:=hs
  exact fin (v:=V.non) (u:=Value.none) J rfl q
 | brk=>
  obtain ⟨_,_,_,q⟩:=hs
  exact False.elim q
 | cont=>
  obtain ⟨_,_,_,q⟩:=hs
  exact False.elim q
end L2
namespace L2
open PySem PySem.Spec PyProof.Rows
section
variable {X:Cx} {x:Str} {p pos:Pos} {e:Expr} {es:List Expr} {t:TA} {id T:String} {r:List V→Hp→VK→Prop}
def tCB (r:List V→Hp→VK→Prop) (t:TA):TE:=fun σ H Q=>t σ H fun vs H1=>r vs H1 Q
theorem eN (hc:bN X (.builtin id) r) (hg:Gl X x) (hm:X.mg x=none) (hv:bootBuiltins x=some (.builtin id)) (ha:PA X (e::es) t) (hn:x≠"__name__":=by decide) (hdb:(x==("__debug__" : Str))=false:=by decide)
  (he:starEach (e::es) X.env=(false,eval e X.env)::starEach es X.env:=by rfl) (hpl:(backTo pos (starEach es X.env)).any (·.1)=false:=by rfl):PE X (.Call (.Name x p) (e::es) [] pos) (tCB r t):=by
 intro pins s σ H Q I h
 refine wpAny_Call_Name_kw (jw I hg hm hv ?_ hn hdb)
 exact PyProof.Rows.callWith_builtin1 (thn (ha pos pins s σ H _ I h) fun us s1 ⟨vs,H1,I1,r1,q1⟩=>hc pins s1 σ H1 vs us Q I1 r1 q1) he hpl
theorem pe_callTy (hc:bN X (.type T) r) (hg:Gl X x) (hm:X.mg x=none) (hv:bootBuiltins x=some (.type T)) (ha:PA X (e::es) t) (hn:x≠"__name__":=by decide) (hdb:(x==("__debug__" : Str))=false:=by decide)
  (he:starEach (e::es) X.env=(false,eval e X.env)::starEach es X.env:=by rfl) (hpl:(backTo pos (starEach es X.env)).any (·.1)=false:=by rfl):PE X (.Call (.Name x p) (e::es) [] pos) (tCB r t):=by
 intro pins s σ H Q I h
 refine wpAny_Call_Name_kw (jw I hg hm hv ?_ hn hdb)
 exact callWith_type1 (thn (ha pos pins s σ H _ I h) fun us s1 ⟨vs,H1,I1,r1,q1⟩=>hc pins s1 σ H1 vs us Q I1 r1 q1) he hpl
end
end L2
namespace HT
open PySem PyProof.Rows
section
open PySem.SeqAt
open PySem.AutoSeq1 (wpAny_loadPart')
open PySem.MeetsSeq PySem.MeetsSeq2 PySem.MeetsSeq3
end
section
variable {prog:Program} {w:World} {A:Around} {E:Value→Shared→Prop} {s:Shared}
def sIx (n d:Nat):Option Int→Nat
 | none=>d
 | some v=>if v<0 then (v+(n:Int)).toNat else min v.toNat n
end
end HT
namespace L2
open PySem PySem.Spec PyProof.Rows
abbrev TO:=St→Hp→(Option Int→Hp→Prop)→Prop
def PO (X:Cx) (e:Option Expr) (t:TO):Prop:=
 ∀ (pins:List (Addr×Obj)) (s:Shared) (σ:St) (H:Hp) (Q:Option Int→Hp→Prop),Inv X pins σ H s→t σ H Q→
  wpAny (model X.prog X.w) X.A (evalPart e X.env) (fun u s'=>∃ o H',Inv X pins σ H' s'∧IsPart u o∧Q o H') X.xe s
def tNoPart:TO:=fun _ H Q=>Q none H
def tPart (t:TE):TO:=fun σ H Q=>t σ H fun x H1=>∃ i,x=.int i∧Q (some i) H1
section
variable {X:Cx} {e:Expr} {te:TE} {lo hi:Option Expr} {tl th:TO} {pos p2:Pos}
theorem po_none:PO X none tNoPart:=by
 intro pins s σ H Q I h
 rw [evalPart_none]
 exact wpAny_pure ⟨none,H,I,.none,h⟩
theorem po_some (h:PE X e te):PO X (some e) (tPart te):=by
 intro pins s σ H Q I hw
 rw [evalPart_some]
 refine thn (h pins s σ H _ I hw) fun u s1 ⟨x,H1,I1,r1,q1⟩=>?_
 obtain ⟨i,rfl,q⟩:=q1
 obtain ⟨t,rfl⟩:=r1
 exact ⟨some i,H1,I1,.int i t,q⟩
def SlR (X:Cx) (r:V→Option Int→Option Int→Hp→VK→Prop):Prop:=
 ∀ (pins:List (Addr×Obj)) (s:Shared) (σ:St) (H:Hp) (x:V) (v vl vu:Value) (lo hi:Option Int) (sl:Addr) (Q:VK),Inv X pins σ H s→RelV x v→s.heap.IsSliceOf sl vl vu .none→IsPart vl lo→IsPart vu hi→r x lo hi H Q→
  ∃ T id,typeLookup (.type T) "__getitem__" = pure (some (.builtin id))∧s.TypeIs v T∧wpAny (model X.prog X.w) X.A (getItem v (.ref sl)) (EP X pins σ Q) X.xe s
def tSl (r:V→Option Int→Option Int→Hp→VK→Prop) (te:TE) (tl th:TO):TE:=fun σ H Q=>te σ H fun x H1=>tl σ H1 fun l H2=>th σ H2 fun u H3=>r x l u H3 Q
theorem kh {r:V→Option Int→Option Int→Hp→VK→Prop} (hr:SlR X r) (he:PE X e te) (hl:PO X lo tl) (hu:PO X hi th):PE X (.Subscript e (.Slice lo hi none p2) pos) (tSl r te tl th):=by
 intro pins s σ H Q I h
 refine Subscript_ (thn (he pins s σ H _ I h) fun v s1 ⟨x,H1,I1,r1,q1⟩=>?_)
 refine wpAny_Slice (thn (hl pins s1 σ H1 _ I1 q1) fun vl s2 ⟨l,H2,I2,pl,q2⟩=>thn (hu pins s2 σ H2 _ I2 q2) fun vu s3 ⟨u,H3,I3,pu,q3⟩=>?_)
 rw [evalPart_none]
 refine wpAny_pure ?_
 have I4:Inv X pins σ H3 { s3 with heap:=s3.heap.push { cls:=.type "slice",data:=.fields #[vl,vu,.none] } }:=I3.kept (t':=s3.toks) fun b ob q=>Heap.get?_push_of_some _ q
 obtain ⟨T,id,hT,ht,hg⟩:=hr pins { s3 with heap:=s3.heap.push { cls:=.type "slice",data:=.fields #[vl,vu,.none] } } σ H3 x v vl vu l u s3.heap.objs.size Q I4 r1 (Heap.IsSliceOf.new ..) pl pu q3
 show wpAny (model X.prog X.w) X.A (subscriptTail e (.Slice lo hi none p2) v (.ref s3.heap.objs.size)) (EP X pins σ Q) X.xe { s3 with heap:=s3.heap.push { cls:=.type "slice",data:=.fields #[vl,vu,.none] } }
 exact tail_any (ops:=[.ref s3.heap.objs.size,v]) ht hT hg (by with_unfolding_all rfl)
def cutV (xs:List V) (lo hi:Option Int):List V:=(xs.drop (HT.sIx xs.length 0 lo)).take (HT.sIx xs.length xs.length hi-HT.sIx xs.length 0 lo)
theorem ki (xs:List V) (lo hi:Option Int):(cutV xs lo hi).length≤xs.length:=by
 unfold cutV
 rw [List.length_take,List.length_drop]
 omega
end
end L2
namespace L2
open PySem PySem.Spec PyProof.Rows
def ixN (n:Nat) (i:Int):Option Nat:=if 0≤i then (if i<n then some i.toNat else none) else if -(n:Int)≤i then some (i+n).toNat else none
def atI {α:Type} (xs:List α) (i:Int):Option α:=(ixN xs.length i).bind fun j=>xs[j]?
theorem ixN_seq {n:Nat} {i:Int} {j:Nat} (h:ixN n i=some j):seqIndex? i n=some j∧j<n∧-(n:Int)≤i∧i<n:=by
 unfold ixN at h
 by_cases h0:0≤i
 ·
  rw [if_pos h0] at h
  by_cases h1:i<n
  ·
   rw [if_pos h1] at h
   have e:i.toNat=j:=Option.some.inj h
   exact ⟨by rw [seqIndex_of h0 h1,e],by omega,by omega,h1⟩
  ·
   rw [if_neg h1] at h;cases h
 ·
  rw [if_neg h0] at h
  by_cases h1:-(n:Int)≤i
  ·
   rw [if_pos h1] at h
   have e:(i+n).toNat=j:=Option.some.inj h
   exact ⟨by rw [seqIndex_neg (by omega) h1,e],by omega,h1,by omega⟩
  ·
   rw [if_neg h1] at h;cases h
theorem atI_get {α:Type} {xs:List α} {i:Int} {v:α} (h:atI xs i=some v):∃ j,seqIndex? i xs.length=some j∧xs[j]?=some v∧j<xs.length∧-(xs.length:Int)≤i∧i<xs.length:=by
 unfold atI at h
 cases e:ixN xs.length i with
 | none=>rw [e] at h;cases h
 | some j=>
  rw [e] at h
  obtain ⟨h1,h2,h3,h4⟩:=ixN_seq e
  exact ⟨j,h1,h,h2,h3,h4⟩
def ib (b:Expr):Prop:=∀ o i,subscripted b false o i=operate [o,i] (getItem o i)
def IxR (X:Cx) (r:R2):Prop:=
 ∀ (value slice:Expr) (pins:List (Addr×Obj)) (s:Shared) (σ:St) (H:Hp) (x y:V) (v u:Value) (Q:VK),Inv X pins σ H s→RelV x v→RelV y u→r x y H Q→
  subscripted slice false v u=operate [v,u] (getItem v u)→wpAny (model X.prog X.w) X.A (subscriptTail value slice v u) (EP X pins σ Q) X.xe s
def MtR (X:Cx) (id:String) (r:V→List V→Hp→VK→Prop):Prop:=
 ∀ (pins:List (Addr×Obj)) (s:Shared) (σ:St) (H:Hp) (x:V) (xs:List V) (v:Value) (us:List Value) (Q:VK),Inv X pins σ H s→RelV x v→aA xs us→r x xs H Q→
  wpAny (model X.prog X.w) X.A (call (.builtin id) (v::us)) (EP X pins σ Q) X.xe s
section
variable {X:Cx} {a b:Expr} {ta tb:TE} {pos:Pos}
theorem pe_ix {r:R2} (hr:IxR X r) (ha:PE X a ta) (hb:PE X b tb) (hs:ib b):PE X (.Subscript a b pos) (tOp r ta tb):=by
 intro pins s σ H Q I h
 exact Subscript_ (binT ha hb I h fun v u s2 x y H2 I2 rx ry q=>hr a b pins s2 σ H2 x y v u Q I2 rx ry q (hs _ _))
def rIxL (K:Frag):R2:=fun x y H Q=>∃ p xs i v,x=.ref p∧y=.int i∧SqL K H p xs∧atI xs i=some v∧Q v H
def rIxT (K:Frag):R2:=fun x y H Q=>∃ p xs i v,x=.ref p∧y=.int i∧SqT K H p xs∧atI xs i=some v∧Q v H
theorem ix_list:IxR X (rIxL X.K):=by
 intro value slice pins s σ H x y v u Q I rx ry h hs
 obtain ⟨p,xs,i,z,rfl,rfl,hq,he,q⟩:=h
 cases rx
 obtain ⟨t,rfl⟩:=ry
 obtain ⟨its,r,pl,hz⟩:=I.list hq
 obtain ⟨j,h1,h2,h3,h4,h5⟩:=atI_get he
 obtain ⟨w,ew,rw'⟩:=r.get h2
 have hl:=r.length
 have hn:=jA
 have fin:EP X pins σ Q w s:=⟨z,H,I,rw',q⟩
 by_cases h0:0≤i
 ·
  have hj:i.toNat=j:=by
   rw [seqIndex_of h0 h5] at h1
   exact Option.some.inj h1
  exact item_listR pl.isList h0 (by omega) (by rw [hj];simpa using ew) fin hs
 ·
  have hj:(i+(its.toArray.size:Int)).toNat=j:=by
   rw [seqIndex_neg (by omega) h4] at h1
   rw [List.size_toArray,←hl]
   exact Option.some.inj h1
  exact subscriptTail_builtinR (x:=w) pl.isList.typeIs slot_list_getitem.lookup
   (wpAny_getItem_list_neg (Q:=fun r s'=>r=w∧EP X pins σ Q r s') pl.isList (by omega) (by rw [List.size_toArray] <;> omega) (by omega) (by rw [hj];simpa using ew) ⟨rfl,fin⟩) hs
theorem ix_tup:IxR X (rIxT X.K):=by
 intro value slice pins s σ H x y v u Q I rx ry h hs
 obtain ⟨p,xs,i,z,rfl,rfl,hq,he,q⟩:=h
 cases rx
 obtain ⟨t,rfl⟩:=ry
 obtain ⟨its,r,pl,hz⟩:=I.tuple hq
 obtain ⟨j,h1,h2,h3,h4,h5⟩:=atI_get he
 obtain ⟨w,ew,rw'⟩:=r.get h2
 have hl:=r.length
 have hn:=jA
 have fin:EP X pins σ Q w s:=⟨z,H,I,rw',q⟩
 exact subscriptTail_builtinR (x:=w) pl.typeIs slot_tuple_getitem.lookup
  (getItem_tuple (j:=j) (Q:=fun r s'=>r=w∧EP X pins σ Q r s') pl (by omega) (by omega) (by rw [List.size_toArray,←hl];exact h1) (by simpa using ew) ⟨rfl,fin⟩) hs
theorem jD (lo hi:Option Int) (n:Nat):(sliceBounds lo hi none n).1=((HT.sIx n 0 lo:Nat):Int)∧(sliceBounds lo hi none n).2.1=((HT.sIx n n hi:Nat):Int)∧(sliceBounds lo hi none n).2.2=1:=by
 refine ⟨?_,?_,rfl⟩
 ·
  cases lo with
  | none=>simp [sliceBounds,HT.sIx]
  | some i=>
   simp only [sliceBounds,HT.sIx,Option.getD_none,show (1:Int)>0 by decide,if_true]
   by_cases h:i<0
   ·
    simp only [h,if_true] <;> omega
   ·
    simp only [h,if_false] <;> omega
 ·
  cases hi with
  | none=>simp [sliceBounds,HT.sIx]
  | some i=>
   simp only [sliceBounds,HT.sIx,Option.getD_none,show (1:Int)>0 by decide,if_true]
   by_cases h:i<0
   ·
    simp only [h,if_true] <;> omega
   ·
    simp only [h,if_false] <;> omega
theorem iY (its:List Value) (lo hi:Option Int):slicePick its.toArray lo hi none=((its.drop (HT.sIx its.length 0 lo)).take (HT.sIx its.length its.length hi-HT.sIx its.length 0 lo)).toArray:=by
 obtain ⟨h1,h2,h3⟩:=jD lo hi its.toArray.size
 unfold slicePick
 rw [h1,h2,h3]
 simp only [sliceRange_one,pick_run,List.size_toArray] <;> rfl
def rSlL (K:Frag):V→Option Int→Option Int→Hp→VK→Prop:=fun x lo hi H Q=>∃ a xs,x=.ref a∧SqL K H a xs∧∀ p,H p=none→Q (.ref p) (upd H p (.lst (cutV xs lo hi)))
theorem sl_list:SlR X (rSlL X.K):=by
 intro pins s σ H x v vl vu lo hi sl Q I rx hs pl pu h
 obtain ⟨a,xs,rfl,hx,q⟩:=h
 cases rx
 obtain ⟨its,r,ht,hz⟩:=I.list hx
 have hlen:=r.length
 refine ⟨"list",_,slot_list_getitem.lookup,ht.isList.typeIs,?_⟩
 refine wpAny_getItem_list_slice ht.isList hs pl pu .none (by simp) ?_ (by rw [List.size_toArray] <;> omega)
 rw [iY,←hlen]
 refine ⟨.ref s.heap.objs.size,_,I.laid (t':=s.toks) (o:=.lst (cutV xs lo hi)) (fun b ob q=>Heap.get?_push_of_some _ q) (Nat.le_refl _) ?_,rfl,q _ (I.hok.fresh (Nat.le_refl _))⟩
 exact ⟨Nat.le_trans (ki xs lo hi) hz,_,0,(r.drop (HT.sIx xs.length 0 lo)).take (HT.sIx xs.length xs.length hi-HT.sIx xs.length 0 lo),Heap.get?_push_size _ rfl⟩
def gc:V→Bool
 | .non=>true
 | .bl _=>true
 | .int _=>true
 | .str _=>true
 | _=>false
def eqV:V→V→Bool
 | .non,.non=>true
 | .bl a,.bl b=>a==b
 | .bl a,.int b=>(if a then 1 else 0)==b
 | .int a,.bl b=>a==(if b then 1 else 0)
 | .int a,.int b=>a==b
 | .str a,.str b=>a==b
 | _,_=>false
theorem eqAt_V {A:Around} {s:Shared} {y x:V} {u v:Value} (ry:RelV y u) (rx:RelV x v) (fy:gc y=true) (fx:gc x=true):SeqAt.EqAt A s u v (eqV y x):=by
 cases y with
 | non=>
  cases ry
  cases x with
  | non=>cases rx;exact SeqAt.EqAt.same _
  | bl b=>cases rx;exact SeqAt.EqAt.none_bool b
  | int b=>obtain ⟨t,rfl⟩:=rx;exact SeqAt.EqAt.none_int b t
  | str b=>obtain ⟨t,rfl⟩:=rx;exact SeqAt.EqAt.none_str b t
  | _=>exact absurd (show false=true from fx) Bool.false_ne_true
 | bl a=>
  cases ry
  cases x with
  | non=>cases rx;exact SeqAt.EqAt.bool_none a
  | bl b=>cases rx;exact SeqAt.EqAt.bool_bool a b
  | int b=>obtain ⟨t,rfl⟩:=rx;exact SeqAt.EqAt.bool_int a b t
  | str b=>obtain ⟨t,rfl⟩:=rx;exact SeqAt.EqAt.bool_str a b t
  | _=>exact absurd (show false=true from fx) Bool.false_ne_true
 | int a=>
  obtain ⟨t',rfl⟩:=ry
  cases x with
  | non=>cases rx;exact SeqAt.EqAt.int_none a t'
  | bl b=>cases rx;exact SeqAt.EqAt.int_bool a t' b
  | int b=>obtain ⟨t,rfl⟩:=rx;exact SeqAt.EqAt.int_int a t' b t
  | str b=>obtain ⟨t,rfl⟩:=rx;exact SeqAt.EqAt.int_str a t' b t
  | _=>exact absurd (show false=true from fx) Bool.false_ne_true
 | str a=>
  obtain ⟨t',rfl⟩:=ry
  cases x with
  | non=>cases rx;exact SeqAt.EqAt.str_none a t'
  | bl b=>cases rx;exact SeqAt.EqAt.str_bool a t' b
  | int b=>obtain ⟨t,rfl⟩:=rx;exact SeqAt.EqAt.str_int a t' b t
  | str b=>obtain ⟨t,rfl⟩:=rx;exact SeqAt.EqAt.str_str a t' b t
  | _=>exact absurd (show false=true from fx) Bool.false_ne_true
 | _=>exact absurd (show false=true from fy) Bool.false_ne_true
def eqU (x:V) (u:Value):Bool:=match u with
 | .none=>eqV .non x
 | .bool b=>eqV (.bl b) x
 | .int i _=>eqV (.int i) x
 | .str z _=>eqV (.str z) x
 | _=>false
theorem eqU_of {x y:V} {u:Value} (r:RelV y u) (f:gc y=true):eqU x u=eqV y x:=by
 cases y with
 | non=>cases r;rfl
 | bl b=>cases r;rfl
 | int i=>obtain ⟨t,rfl⟩:=r;rfl
 | str z=>obtain ⟨t,rfl⟩:=r;rfl
 | _=>exact absurd (show false=true from f) Bool.false_ne_true
theorem jE {x:V}:∀ {xs:List V} {us:List Value},aA xs us→xs.all gc=true→us.any (eqU x)=xs.any fun y=>eqV y x
 | _,_,.nil,_=>rfl
 | y::xs,u::us,.cons r t,f=>by
  rw [List.all_cons,Bool.and_eq_true] at f
  rw [List.any_cons,List.any_cons,eqU_of r f.1,jE t f.2]
theorem iu {A:Around} {s:Shared} {x:V} {v:Value} (rx:RelV x v) (fx:gc x=true):∀ {xs:List V} {us:List Value},aA xs us→xs.all gc=true→∀ u∈us,SeqAt.EqAt A s u v (eqU x u)
 | _,_,.nil,_=>fun u hu=>by cases hu
 | y::xs,u::us,.cons r t,f=>fun u' hu=>by
  rw [List.all_cons,Bool.and_eq_true] at f
  rcases List.mem_cons.mp hu with rfl | hu
  ·
   rw [eqU_of r f.1];exact eqAt_V r rx f.1 fx
  ·
   exact iu rx fx t f.2 u' hu
def inV (x:V) (xs:List V):Bool:=xs.any fun y=>eqV y x
def rIn (K:Frag) (neg:Bool):R2:=fun x y H Q=>∃ p xs,y=.ref p∧(SqL K H p xs∨SqT K H p xs)∧gc x=true∧xs.all gc=true∧Q (.bl (if neg then !inV x xs else inV x xs)) H
theorem jF:OpR X (compareOp .NotIn) (rIn X.K true):=by
 intro pins s σ H x y v u Q I rx ry h
 obtain ⟨p,xs,rfl,hq,fx,fs,q⟩:=h
 cases ry
 rcases hq with hq | hq
 ·
  obtain ⟨its,r,pl,hz⟩:=I.list hq
  refine SeqAt.notIn_listAt (eqU x) pl.isList (fun w hw=>iu rx fx r fs w (by simpa using hw)) ⟨.bl _,H,I,rfl,?_⟩
  rw [show its.toArray.any (eqU x)=its.any (eqU x) by simp,jE r fs]
  exact q
 ·
  obtain ⟨its,r,pl,hz⟩:=I.tuple hq
  refine SeqAt.notIn_tupleAt (eqU x) pl (fun w hw=>iu rx fx r fs w (by simpa using hw)) ⟨.bl _,H,I,rfl,?_⟩
  rw [show its.toArray.any (eqU x)=its.any (eqU x) by simp,jE r fs]
  exact q
theorem dQ:bN X (.builtin "len") (fun xs H Q=>∃ p ys,xs=[.ref p]∧(SqL X.K H p ys∨SqT X.K H p ys)∧Q (.int ys.length) H):=by
 intro pins s σ H xs us Q I r h
 obtain ⟨p,ys,rfl,hq,q⟩:=h
 obtain ⟨u,rfl,rx⟩:=vals1 r
 cases rx
 have hn:=jA
 rcases hq with hq | hq
 ·
  obtain ⟨its,r',pl,hz⟩:=I.list hq
  have hlen:=r'.length
  exact Calls.call_len_list pl.isList (by simp only [List.size_toArray] <;> omega) ⟨.int ys.length,H,I.tok _,⟨s.toks+1,by rw [List.size_toArray,hlen]⟩,q⟩
 ·
  obtain ⟨its,r',pl,hz⟩:=I.tuple hq
  have hlen:=r'.length
  exact len_tuple pl (by simp only [List.size_toArray] <;> omega) ⟨.int ys.length,H,I.tok _,⟨s.toks+1,by rw [List.size_toArray,hlen]⟩,q⟩
theorem jG:bN X (.builtin "len") (fun xs H Q=>∃ z,xs=[.str z]∧z.length≤sizeLine∧Q (.int z.length) H):=by
 intro pins s σ H xs us Q I r h
 obtain ⟨z,rfl,hz,q⟩:=h
 obtain ⟨u,rfl,t,rfl⟩:=vals1 r
 have hn:=jA
 exact len_str (by omega) ⟨.int z.length,H,I.tok _,⟨_,rfl⟩,q⟩
theorem gd:bN X (.type "list") (fun xs H Q=>∃ p ys,xs=[.ref p]∧(SqL X.K H p ys∨SqT X.K H p ys)∧∀ l,H l=none→Q (.ref l) (upd H l (.lst ys))):=by
 intro pins s σ H xs us Q I r h
 obtain ⟨p,ys,rfl,hq,q⟩:=h
 obtain ⟨u,rfl,rx⟩:=vals1 r
 cases rx
 have fin:∀ (its:List Value),aA ys its→ys.length≤sizeLine→∀ (h':Heap) (c':Nat),(∀ b o',s.heap.get? b=some o'→h'.get? b=some o')→
   h'.get? s.heap.objs.size=some { cls:=.type "list",dict:=none,data:=.seq its.toArray c',slots:=#[] }→EP X pins σ Q (.ref s.heap.objs.size) { s with heap:=h' }:=fun its r' hz h' c' kp e=>
  ⟨.ref s.heap.objs.size,_,I.laid (t':=s.toks) kp (Nat.le_refl _) (show bE X.prog X.w _ h' _ (.lst ys) from ⟨hz,its,c',r',e⟩),rfl,q _ (I.hok.fresh (Nat.le_refl _))⟩
 rcases hq with hq | hq
 ·
  obtain ⟨its,r',pl,hz⟩:=I.list hq
  have hlen:=r'.length
  obtain ⟨o,ho,hc,n,hd⟩:=pl.isList
  exact call_list_seq p (.inl rfl) ho hc hd (fun h' c' kp e=>fin its r' hz h' c' kp e) (by simp only [List.size_toArray] <;> omega)
 ·
  obtain ⟨its,r',pl,hz⟩:=I.tuple hq
  have hlen:=r'.length
  obtain ⟨o,ho,hc,n,hd⟩:=pl
  exact call_list_seq p (.inr rfl) ho hc hd (fun h' c' kp e=>fin its r' hz h' c' kp e) (by simp only [List.size_toArray] <;> omega)
def tyV (K:Frag) (T:String) (x:V) (H:Hp):Prop:=match x with
 | .str _=>T = "str"
 | .int _=>T = "int"
 | .ref p=>(T = "list"∧∃ xs,SqL K H p xs)∨(T = "tuple"∧∃ o,K.lookup p=some o∧o.cls=.type "tuple"∧o.dict=none)∨
  (T = "dict"∧((∃ kvs,H p=some (.dK kvs))∨∃ kvs,H p=some (.dT kvs)))∨(T = "set"∧∃ S n,H p=some (.set S n))
 | _=>False
theorem tyV_is {pins:List (Addr×Obj)} {σ:St} {H:Hp} {s:Shared} {T:String} {x:V} {v:Value} (I:Inv X pins σ H s) (r:RelV x v) (ty:tyV X.K T x H) :
  s.TypeIs v T∧∀ a,v=.ref a→∃ ob,s.heap.get? a=some ob∧ob.dict=none:=by
 cases x with
 | str z=>
  obtain ⟨t,rfl⟩:=r
  cases (show T = "str" from ty)
  exact ⟨typeIs_str s z t,fun _ e=>nomatch e⟩
 | int i=>
  obtain ⟨t,rfl⟩:=r
  cases (show T = "int" from ty)
  exact ⟨typeIs_int s i t,fun _ e=>nomatch e⟩
 | ref p=>
  cases r
  rcases ty with ⟨rfl,xs,hq⟩ | ⟨rfl,o,hk,hc,hd⟩ | ⟨rfl,hk⟩ | ⟨rfl,S,n,hk⟩
  ·
   obtain ⟨its,_,pl,_⟩:=I.list hq
   refine ⟨pl.isList.typeIs,fun a e=>?_⟩
   cases e
   obtain ⟨o,n,e,c,hd,_⟩:=pl
   exact ⟨o,e,hd⟩
  ·
   refine ⟨⟨o,I.kIn p o hk,hc⟩,fun a e=>?_⟩
   cases e
   exact ⟨o,I.kIn _ o hk,hd⟩
  ·
   have z:∃ o,s.heap.get? p=some o∧o.ExactDict:=by
    rcases hk with ⟨kvs,hk⟩ | ⟨kvs,hk⟩
    ·
     obtain ⟨_,_,_,_,o,_,_,e,ex,_⟩:=I.hok p _ hk
     exact ⟨o,e,ex⟩
    ·
     obtain ⟨_,_,_,_,o,_,_,e,ex,_⟩:=I.hok p _ hk
     exact ⟨o,e,ex⟩
   obtain ⟨o,e,ex⟩:=z
   refine ⟨⟨o,e,ex.1⟩,fun a e2=>?_⟩
   cases e2
   exact ⟨o,e,ex.2.1⟩
  ·
   obtain ⟨o,_,_,_,e,ex,_⟩:=I.hok p _ hk
   refine ⟨⟨o,e,ex.1⟩,fun a e2=>?_⟩
   cases e2
   exact ⟨o,e,ex.2.1⟩
 | _=>exact False.elim ty
def tBM (K:Frag) (T:String) (r:V→List V→Hp→VK→Prop) (to:TE) (t:TA):TE:=fun σ H Q=>to σ H fun x H1=>tyV K T x H1∧t σ H1 fun xs H2=>r x xs H2 Q
variable {o e:Expr} {es:List Expr} {to:TE} {t:TA} {name:Str} {apos cpos:Pos} {T id:String} {r:V→List V→Hp→VK→Prop}
theorem pe_bm (pa:PlainAttrs T) (slot:Slot T name id) (hty:typeOf (.builtin id)=pure (.type "method_descriptor")) (hm:MtR X id r) (ho:PE X o to) (ha:PA X (e::es) t)
  (hbase:attributeBase o name X.env (eval o X.env)=eval o X.env:=by rfl)
  (hfew:((backTo cpos (starEach (e::es) X.env)).all (fun x=>!x.1)&&(backToKw cpos (keywordEach [] X.env)).all (fun x=>x.1.isSome)
   &&decide ((e::es).length+([]:List Keyword).length+(if ([]:List Keyword).isEmpty then 0 else 1)<30))=true:=by rfl)
  (hline:(apos.endLine==cpos.line)=true:=by rfl) (hs:starEach (e::es) X.env=(false,eval e X.env)::starEach es X.env:=by rfl) (hplain:(backTo cpos (starEach es X.env)).any (·.1)=false:=by rfl) :
  PE X (.Call (.Attribute o name apos) (e::es) [] cpos) (tBM X.K T r to t):=by
 intro pins s σ H Q I h
 refine wpAny_Call_method_late hbase hfew hline rfl (thn (ho pins s σ H _ I h) fun v s1 ⟨x,H1,I1,r1,ty,q1⟩=>?_)
 obtain ⟨h1,h2⟩:=tyV_is I1 r1 ty
 refine ⟨T,id,pa,slot,hty,h1,h2,?_⟩
 have hA:=ha cpos pins s1 σ H1 _ I1 q1
 rw [hs] at hA ⊢
 refine Calls.callWith_builtin (by show (false||(backTo cpos (starEach es X.env)).any (·.1))=false;rw [hplain] <;> rfl) (Calls.evalArgs_plain ?_)
 exact thn hA fun us s2 ⟨vs,H2,I2,r2,q2⟩=>hm pins s2 σ H2 x vs v us Q I2 r1 r2 q2
end
end L2
namespace L2
open PySem PySem.Spec PyProof.Rows
def MtM (X:Cx) (id:String) (r:V→List V→Hp→VK→Prop):Prop:=
 ∀ (pins:List (Addr×Obj)) (s:Shared) (σ:St) (H:Hp) (x:V) (xs:List V) (v:Value) (us:List Value) (Q:VK),Inv X pins σ H s→RelV x v→aA xs us→r x xs H Q→
  wpAny (model X.prog X.w) X.A (call (.builtin id) (v::us)) (EP X pins σ Q) X.xe s
theorem aA.one:∀ {x:V} {us:List Value},aA [x] us→∃ u,us=[u]∧RelV x u
 | _,_,.cons r .nil=>⟨_,rfl,r⟩
theorem aA.two:∀ {x y:V} {us:List Value},aA [x,y] us→∃ u v,us=[u,v]∧RelV x u∧RelV y v
 | _,_,_,.cons r (.cons q .nil)=>⟨_,_,rfl,r,q⟩
theorem aA.reverse {xs:List V} {us:List Value} (h:aA xs us):aA xs.reverse us.reverse:=by
 induction h with
 | nil=>exact .nil
 | cons r t ih=>rw [List.reverse_cons,List.reverse_cons];exact aA.append ih (.cons r .nil)
theorem aA.rep {xs:List V} {us:List Value} (h:aA xs us):∀ k:Nat,aA (List.replicate k xs).flatten (List.replicate k us).flatten
 | 0=>.nil
 | k+1=>by
  rw [List.replicate_succ,List.replicate_succ,List.flatten_cons,List.flatten_cons]
  exact aA.append h (aA.rep h k)
theorem foldl_rep (its:List Value):∀ (k:Nat) (acc:List Value),
  List.foldl (fun x1 x2=>x1++x2) acc.toArray (List.replicate k its.toArray)=(acc++(List.replicate k its).flatten).toArray
 | 0,acc=>by simp
 | k+1,acc=>by
  have e:acc.toArray++its.toArray=(acc++its).toArray:=by simp
  have e2:(acc++its)++(List.replicate k its).flatten=acc++(List.replicate (k+1) its).flatten:=by
   rw [List.replicate_succ,List.flatten_cons,List.append_assoc]
  rw [←e2,←foldl_rep its k (acc++its),←e,List.replicate_succ,List.foldl_cons]
section
variable {X:Cx} {pins:List (Addr×Obj)} {σ:St} {H:Hp} {s:Shared} {l b:Addr} {xs ys zs:List V}
theorem Inv.lset {its its':List Value} {n:Nat} {f:Array Value→Array Value} {t':Nat} (I:Inv X pins σ H s) (hH:H l=some (.lst xs))
  (e:s.heap.get? l=some { cls:=.type "list",data:=.seq its.toArray n }) (hf:f its.toArray=its'.toArray) (hv:aA ys its') (hz:ys.length≤sizeLine) :
  Inv X pins σ (upd H l (.lst ys)) { s with heap:=s.heap.update l (Obj.mapSeq f),toks:=t' }:=by
 have q:=PySem.IsL.update e f
 rw [hf] at q
 refine I.write (x:=l) (e:=l) (by rw [hH];exact trivial) (.inl rfl) (fun b' u hb hu=>(Heap.get?_update_other s.heap (Obj.mapSeq f) (Ne.symm hb)).trans hu) ⟨_,q⟩ ?_
 exact ⟨hz,its',_,hv,q⟩
theorem Inv.lnew {its:List Value} {t':Nat} (I:Inv X pins σ H s) (hv:aA ys its) (hz:ys.length≤sizeLine) :
  Inv X pins σ (upd H s.heap.objs.size (.lst ys)) { s with heap:=s.heap.push { cls:=.type "list",data:=.seq its.toArray },toks:=t' }:=
 I.laid (fun _ _ q=>Heap.get?_push_of_some _ q) (Nat.le_refl _) ⟨hz,its,0,hv,Heap.get?_push_size _ rfl⟩
theorem Inv.fresh (I:Inv X pins σ H s):H s.heap.objs.size=none:=I.hok.fresh (Nat.le_refl _)
theorem Inv.lstM (I:Inv X pins σ H s) (hH:H l=some (.lst xs)):xs.length≤sizeLine∧∃ (its:List Value) (n:Nat),aA xs its∧xs.length=its.length∧s.heap.get? l=some { cls:=.type "list",data:=.seq its.toArray n }:=by
 obtain ⟨z,its,n,r,e⟩:=I.hok l _ hH
 exact ⟨z,its,n,r,r.length,e⟩
theorem kj {n:Nat} (h:n≤sizeLine):Builtin.List.listTooLong n=false:=by
 unfold Builtin.List.listTooLong
 exact decide_eq_false (by omega)
end
section
variable {X:Cx}
def rAppend:V→List V→Hp→VK→Prop:=fun x vs H Q=>∃ l xs y,x=.ref l∧vs=[y]∧H l=some (.lst xs)∧xs.length<sizeLine∧Q .non (upd H l (.lst (xs++[y])))
theorem gE:MtM X "list.append" rAppend:=by
 intro pins s σ H x vs v us Q I rx rv h
 obtain ⟨l,xs,y,rfl,rfl,hH,hz,q⟩:=h
 cases rx
 obtain ⟨u,rfl,ru⟩:=rv.one
 obtain ⟨z,its,n,r,hl,e⟩:=I.lstM hH
 refine call_meets F.slot_list_append ⟨_,e,rfl⟩ F.entry_list_append (F.args_list_append_2 _ _) (PySem.list_append l its.toArray n u (by rw [List.size_toArray];omega)) ⟨e,?_⟩
 refine ⟨.non,_,I.lset (its':=its++[u]) hH e (by simp) (r.append (.cons ru .nil)) ?_,rfl,q⟩
 rw [List.length_append,List.length_singleton]
 omega
def rExtend:V→List V→Hp→VK→Prop:=fun x vs H Q=>∃ l b xs zs,x=.ref l∧vs=[.ref b]∧H l=some (.lst xs)∧H b=some (.lst zs)∧xs.length+zs.length≤sizeLine∧Q .non (upd H l (.lst (xs++zs)))
theorem mt_extend:MtM X "list.extend" rExtend:=by
 intro pins s σ H x vs v us Q I rx rv h
 obtain ⟨l,b,xs,zs,rfl,rfl,hH,hB,hz,q⟩:=h
 cases rx
 obtain ⟨u,rfl,ru⟩:=rv.one
 cases ru
 obtain ⟨z,its,n,r,hl,e⟩:=I.lstM hH
 obtain ⟨z2,its2,n2,r2,hl2,e2⟩:=I.lstM hB
 have hsz:its.toArray.size+its2.toArray.size≤sizeLine:=by rw [List.size_toArray,List.size_toArray];omega
 have hlong:¬(!its.toArray.isEmpty&&Builtin.List.listTooLong (its.toArray.size+its2.toArray.size))=true:=by
  rw [kj hsz,Bool.and_false]
  exact Bool.false_ne_true
 refine call_meets F.slot_list_extend ⟨_,e,rfl⟩ F.entry_list_extend (F.args_list_extend_2 _ _)
  (AutoSeq1.list_extend_list_list_0 l its.toArray n b its2.toArray n2 hlong (by rw [List.size_toArray];omega) (by omega)) ⟨e,e2,?_⟩
 refine ⟨.non,_,I.lset (its':=its++its2) hH e (by simp) (r.append r2) ?_,rfl,q⟩
 rw [List.length_append]
 omega
def rCat:R2:=fun x y H Q=>∃ l b xs zs,x=.ref l∧y=.ref b∧H l=some (.lst xs)∧H b=some (.lst zs)∧xs.length+zs.length≤sizeLine∧∀ p,H p=none→Q (.ref p) (upd H p (.lst (xs++zs)))
theorem op_cat:OpR X (binaryOp .Add) rCat:=by
 intro pins s σ H x y v u Q I rx ry h
 obtain ⟨l,b,xs,zs,rfl,rfl,hH,hB,hz,q⟩:=h
 cases rx
 cases ry
 obtain ⟨z,its,n,r,hl,e⟩:=I.lstM hH
 obtain ⟨z2,its2,n2,r2,hl2,e2⟩:=I.lstM hB
 refine PySem.P.add_list e e2 ?_ (by rw [List.size_toArray,List.size_toArray];omega)
 have ea:its.toArray++its2.toArray=(its++its2).toArray:=by simp
 rw [ea]
 exact ⟨.ref _,_,I.lnew (t':=s.toks) (r.append r2) (by rw [List.length_append];omega),rfl,q _ I.fresh⟩
def rRep:R2:=fun x y H Q=>∃ l k xs,x=.ref l∧y=.int k∧H l=some (.lst xs)∧-(2 ^ 63)≤k∧k<2 ^ 63∧xs.length*k.toNat≤sizeLine∧
 ∀ p,H p=none→Q (.ref p) (upd H p (.lst (List.replicate k.toNat xs).flatten))
theorem len_rep {α:Type} (xs:List α) (k:Nat):(List.replicate k xs).flatten.length=k*xs.length:=by
 induction k with
 | zero=>simp
 | succ k ih=>rw [List.replicate_succ,List.flatten_cons,List.length_append,ih,Nat.succ_mul,Nat.add_comm]
theorem op_rep:OpR X (binaryOp .Mult) rRep:=by
 intro pins s σ H x y v u Q I rx ry h
 obtain ⟨l,k,xs,rfl,rfl,hH,h1,h2,hz,q⟩:=h
 cases rx
 obtain ⟨t,rfl⟩:=ry
 obtain ⟨z,its,n,r,hl,e⟩:=I.lstM hH
 have hlen:its.toArray.size*k.toNat≤sizeLine:=by rw [List.size_toArray,←hl];exact hz
 have hcap:¬its.toArray.size*k.toNat>(2 ^ 63-1) / 8:=by
  have:(sizeLine:Nat)≤(2 ^ 63-1) / 8:=by decide
  omega
 have hfit:¬(!Builtin.List.listFitsIndex k)=true:=by
  rw [fitsIndex_both h1 h2]
  exact Bool.false_ne_true
 have hlong:¬Builtin.List.listTooLong (its.toArray.size*k.toNat)=true:=by
  rw [kj hlen]
  exact Bool.false_ne_true
 have hnew:List.foldl (fun x1 x2=>x1++x2) #[] (List.replicate (if its.toArray.isEmpty=true then 0 else k.toNat) its.toArray)=(List.replicate k.toNat its).flatten.toArray:=by
  have f0:∀ m:Nat,List.foldl (fun x1 x2=>x1++x2) #[] (List.replicate m its.toArray)=(List.replicate m its).flatten.toArray:=fun m=>by
   have:=foldl_rep its m []
   rw [List.nil_append] at this
   exact this
  rw [f0]
  cases its with
  | nil=>simp
  | cons a r'=>rw [if_neg (by simp)]
 refine wpAny_binaryOp_repeat_ref (T:="list") (U:="int") (by decide) ⟨_,e,rfl⟩ (fun s'=>typeIs_int s' k t) noFill_list_mul F.fills_int_mul F.slot_int_rmul repeat_list F.slot_int_index.lookup
  (call_meets F.slot_int_rmul (typeIs_int s k t) F.entry_int_rmul (F.args_int_rmul_2 _ _) (int___rmul___int_list k t l its.toArray n)
   ⟨e,rfl,⟨_,e,rfl⟩,call_meets F.slot_list_mul ⟨_,e,rfl⟩ F.entry_list_mul (F.args_list_mul_2 _ _) (AutoListH.list___mul___list_int_3 l its.toArray n k t hfit hcap hlong) ⟨e,?_⟩⟩)
 rw [hnew]
 exact ⟨.ref _,_,I.lnew (t':=s.toks) (r.rep k.toNat) (by rw [len_rep,Nat.mul_comm];exact hz),rfl,q _ I.fresh⟩
end
end L2
namespace Att
open PySem PySem.W PySem.Calls PyProof.Rows
theorem hR {P:Params} {h:Heap}:∀ (ns:List Int) (vs:List Value),WellAll P h vs (ns.map WData.int)→IntsAre vs ns:=by
 intro ns
 induction ns with
 | nil=>
  intro vs w
  rw [List.map_nil] at w
  cases w
  exact .nil
 | cons n ns ih=>
  intro vs w
  rw [List.map_cons] at w
  cases w with
  | cons a b=>
   cases a
   exact .cons _ _ (ih _ b)
theorem script_of {l:OpenLaw} {n:Nat} (hn:l.most=some n) {P:Params} {h:Heap} {args:List WData} {vals:List Value}
    (hpre:l.row.toRowW.claim.pre args=true) (hwl:WellAll P h vals args) :
    ∃ a vs ns,vals=[Value.ref a]∧args=[WData.list (ns.map WData.int)]∧h.get? a=some { cls:=.type "list",data:=.seq vs.toArray }∧IntsAre vs ns∧ns.length≤n:=by
  have hsh:WShape.hasAll [] args [.list .int]=true:=(pre_splitW hpre).1
  have hc:l.pre.holds [] { args:=args }=true:=(pre_splitW hpre).2
  obtain ⟨d,r,rfl,h1,h2⟩:=hasAllW_cons hsh
  obtain rfl:=hasAllW_nil h2
  obtain ⟨xs,rfl,h3⟩:=hasW_list h1
  obtain ⟨ns,rfl⟩:=items_int h3
  have hlen:ns.length≤n:=by
    unfold OpenLaw.pre at hc
    have h4:(WTm.not (.lt (.lit (.int (n:Int))) (.len (.arg 0)))).holds [] { args:=[.list (ns.map .int)] }=true:=by
      have h4:=(holds_andW hc).1
      rw [hn] at h4
      exact h4
    have h5:=condW_of h4 (w_not (w_lt w_lit (w_len_list (w_arg rfl))))
    rw [List.length_map] at h5
    refine Nat.le_of_not_lt fun q=>?_
    have q':(n:Int)<((ns.length:Nat):Int):=by omega
    first
      | (rw [decide_eq_true q'] at h5;exact absurd h5 (by decide))
      | (simp at h5;omega)
  cases hwl with
  | cons w1 w2=>
    cases w2
    cases w1 with
    | list ho hall=>exact ⟨_,_,ns,rfl,rfl,ho,hR ns _ hall,hlen⟩
theorem post_true (l:OpenLaw) (args:List WData):l.row.toRowW.claim.post args (.bool true) args=true:=
 postW_of (r:=l.row.toRowW) (X:=(true==true))
  (show WShape.has [] (.bool true) .bool=true by first | rfl | decide | simp [WShape.has,WShape.arms,WShape.armsAll])
  (show (WTm.eq .res (.lit (.bool true))).value [] { args:=args,res:=some (.bool true),after:=args }=some (.bool (true==true)) from w_eq_bool (w_res rfl) w_lit) rfl
theorem attach_call {l:OpenLaw} {n:Nat} {q:Program} {loose:List Str} {XP:(Str→Option Value)→Heap→Prop} {YP:World→Heap→Prop} {d:DefRec}
  (hn:l.most=some n) (hdf:d.params.defaults=[])
  (call:∀ (w:World) (s₀ s₁:Shared) (mg mb:Str→Option Value) (fa:Addr) (o:Obj) (pm cd doc:Value) (a:Addr) (vs:List Value) (ns:List Int),
   Ground q loose [] XP w s₀ mg mb s₁.heap→YP w s₁.heap→
   s₁.heap.get? fa=some o→o.data=.func (docDef d.name d.params d.body d.scope pm cd doc)→s₁.heap.CodeRec cd d.name→mg d.name=some (.ref fa)→
   s₁.heap.get? a=some { cls:=.type "list",data:=.seq vs.toArray }→IntsAre vs ns→ns.length≤n→s₁.gens=#[]→
   codeAny (model l.prog w) callerA (.call (.ref fa) ⟨[.ref a],[]⟩) (fun r s'=>r=.ok (.ret (.bool true))∧OldK s₁.heap s'.heap∧s'.os=s₁.os∧AllBare s'.gens) s₁) :
  WalkO q loose XP YP l.row.toRowW d [] (fun f vs=>PySem.call f vs):=by
 intro w s₀ s₁ mg mb G Y fa o pm cd doc dV kV ho hd hcd hD hmg hg args vals as hpre hlay hrd hwl hlo
 obtain rfl:dV=.none:=Dflts.none hD hdf
 obtain rfl:kV=.none:=Dflts.noKw hD
 obtain ⟨a,vs,ns,rfl,rfl,hobj,hints,hlen⟩:=script_of hn hpre hwl
 refine enter_call (codeAny_mono (call w s₀ s₁ mg mb fa o pm cd doc a vs ns G Y ho (fd_plain hd) hcd hmg hobj hints hlen hg) fun r s' hq=>?_)
 obtain ⟨rfl,h2,h3,h4⟩:=hq
 exact ⟨.inl ⟨.bool true,.bool true,[],rfl,fun _=>rfl,.bool true,post_true l _,fun _=>⟨List.Pairwise.nil,fun _ hm=>(nomatch hm)⟩⟩,h2,h3,h4⟩
end Att
namespace L2
open PySem PySem.Spec PyProof.Rows
theorem jd:∀ {vs:List Value} {ns:List Int},IntsAre vs ns→aA (ns.map V.int) vs
 | _,_,.nil=>.nil
 | _,_,.cons n t h=>.cons ⟨t,rfl⟩ (jd h)
def Only (H:Hp):Prop:=∀ b,H b=none∨∃ o xs,H b=some (.frz o (.lst xs))
theorem law_call {P:Program} {w:World} {K:Frag} {mg mb:Str→Option Value} {CX:CXT} {k:Nat} {fa a:Addr} {fd:FuncData} {x:Str} {sp:Sp} {s₁:Shared} {vs:List Value} {ns:List Int}
  (KX:K.In s₁.heap) (hns:s₁.heap.Ns mainGlobals mg) (hb:s₁.heap.Ns builtinsNs mb) (hbb:∀ x:Str,x≠"__name__"→mb x=bootBuiltins x) (hlim:s₁.heap.NoLimit) (hg:s₁.gens=#[])
  (ha:s₁.heap.get? a=some { cls:=.type "list",data:=.seq vs.toArray }) (hi:IntsAre vs ns) (hl:ns.length≤sizeLine) (hr:aQ k callerA)
  (F:∀ base:Heap,K.In base→base.Ns mainGlobals mg→bO P w K mg base CX k fa fd [x] sp) (hbind:∀ (s:Shared) (u:Value),BindsTo s fd ⟨[u],[]⟩ [(x,u)])
  (hsp:∀ H:Hp,Only H→SqL K H a (ns.map V.int)→sp [.ref a] H (fun v _=>v=.bl true) fun _ _ _=>False)
  (hCX:∀ H e s',CX [] H s₁ (fun _ _ _=>False) e s'→False) :
  codeAny (model P w) callerA (.call (.ref fa) ⟨[.ref a],[]⟩) (fun r s'=>r=.ok (.ret (.bool true))∧OldK s₁.heap s'.heap∧s'.os=s₁.os∧AllBare s'.gens) s₁:=by
 have rv:=jd hi
 have lenV:=hi.length
 have core:∀ H:Hp,Only H→SqL K H a (ns.map V.int)→HOk P w H s₁.heap→(∀ b,H b≠none→b=a)→(H a≠none→K.lookup a=none)→
   codeAny (model P w) callerA (.call (.ref fa) ⟨[.ref a],[]⟩) (fun r s'=>r=.ok (.ret (.bool true))∧OldK s₁.heap s'.heap∧s'.os=s₁.os∧AllBare s'.gens) s₁:=by
  intro H hO hS hok hA hK
  have base_of:∀ {b:Addr} {o:Obj},s₁.heap.get? b=some o→H b=none→(hidT s₁.heap H).get? b=some o:=fun e n=>hidT_get e n
  have noA:∀ {b:Addr} {o:Obj} {es:Array DictEntry} {ep:Nat},s₁.heap.get? b=some o→o.data=.dict es ep→H b=none:=fun {b o es ep} e d=>by
   cases q:H b with
   | none=>rfl
   | some u=>
    have e':b=a:=hA b (by rw [q];simp)
    subst e'
    rw [ha] at e;cases e
    have d':Data.seq vs.toArray _=Data.dict es ep:=d
    cases d'
  have nsK:∀ {b:Addr} {m:Str→Option Value},s₁.heap.Ns b m→(hidT s₁.heap H).Ns b m:=fun {b m} ⟨o,es,ep,e,d,r⟩=>⟨o,es,ep,base_of e (noA e d),d,r⟩
  have hKb:K.In (hidT s₁.heap H):=fun b o e=>base_of (KX b o e) (by
   cases q:H b with
   | none=>rfl
   | some u=>
    have e':b=a:=hA b (by rw [q];simp)
    subst e'
    rw [hK (by rw [q];simp)] at e;cases e)
  have hM:Mod K mg (hidT s₁.heap H):=⟨hKb,nsK hns,⟨mb,nsK hb,hbb⟩,let ⟨mc,h1,h2⟩:=hlim;⟨mc,nsK h1,h2⟩⟩
  have e0:Env0 P w K mg (hidT s₁.heap H) callerA [] s₁ H:=⟨rfl,hM,fun b o e=>of_hidT e,Nat.le_of_eq (hidT_size _ _),trivial,fun b hb=>absurd (show b∈([]:List Addr) from hb) (by simp),hok,.of_eq hg⟩
  refine codeAny_mono ((F _ hKb (nsK hns)).run callerA [] s₁ H ⟨[.ref a],[]⟩ [.ref a] [.ref a] _ _ hr e0 (hbind s₁ (.ref a)) (.cons rfl .nil) (hsp H hO hS)) fun r s' h=>?_
  cases r with
  | error e=>exact (hCX H e s' h).elim
  | ok fl=>
   cases fl with
   | next=>exact False.elim h
   | brk=>exact False.elim h
   | cont=>exact False.elim h
   | ret u=>
    obtain ⟨v,H',os,bare,un,hok',r',q⟩:=h
    have q':v=.bl true:=q
    subst q'
    obtain rfl:u=Value.bool true:=r'
    refine ⟨rfl,OldK.of_keep fun b o e=>?_,os,bare⟩
    cases q:H b with
    | none=>exact un.keep b o e q (by intro z;exact absurd (show b∈([]:List Addr) from z) (by simp)) (by simp)
    | some u=>
     rcases hO b with z | ⟨ob,xs,z⟩
     ·
      rw [q] at z;cases z
     ·
      have z2:=un.frzs b ob _ z
      obtain ⟨e1,_⟩:=hok b _ z
      obtain ⟨e2,_⟩:=hok' b _ z2
      rw [e] at e1;cases e1
      exact e2
 cases hk:K.lookup a with
 | some o=>
  have e:=KX a o hk
  rw [ha] at e
  cases e
  refine core (fun _=>none) (fun _=>.inl rfl) (.inr ⟨_,vs.toArray,_,hk,rfl,rfl,rfl,by rw [List.size_toArray,lenV];exact hl,by simpa using rv⟩) (fun b u z=>by have z':(none:Option HO)=some u:=z;cases z') (fun b z=>absurd rfl z) fun z=>absurd rfl z
 | none=>
  refine core (fun b=>if b=a then some (.frz { cls:=.type "list",data:=.seq vs.toArray } (.lst (ns.map V.int))) else none) (fun b=>?_) (.inl (.inr ⟨{ cls:=.type "list",data:=.seq vs.toArray },if_pos rfl⟩)) (fun b u z=>?_) (fun b z=>?_) fun _=>hk
  ·
   by_cases hb:b=a
   ·
    exact .inr ⟨_,_,if_pos hb⟩
   ·
    exact .inl (if_neg hb)
  ·
   by_cases hb:b=a
   ·
    have z':=(if_pos hb).symm.trans z
    cases z'
    subst hb
    exact ⟨ha,by rw [List.length_map];exact hl,vs,_,rv,ha⟩
   ·
    have z':=(if_neg hb).symm.trans z
    cases z'
  ·
   by_cases hb:b=a
   ·
    exact hb
   ·
    exact absurd (if_neg hb) z
end L2
namespace L2
open PySem PySem.Spec PyProof.Rows
abbrev KOf {K:Frag} {h:Heap} (_:K.In h):Frag:=K
theorem walk_of {l:OpenLaw} {n k:Nat} {q:Program} {loose:List Str} {XP:(Str→Option Value)→Heap→Prop} {YP:World→Heap→Prop} {d:DefRec} {K:Params→Frag} {CX:World→CXT} {sp:World→Sp} {x:Str}
  (hn:l.most=some n) (hn2:n≤sizeLine) (hdf:d.params.defaults=[]) (hr:aQ k callerA)
  (hY:∀ (w:World) (h:Heap),YP w h→(K w.params).In h)
  (F:∀ (w:World) (mg:Str→Option Value) (fa:Addr) (h:Heap),(K w.params).In h→h.Ns mainGlobals mg→mg d.name=some (.ref fa)→
   ∃ fd:FuncData,(∀ (s:Shared) (u:Value),BindsTo s fd ⟨[u],[]⟩ [(x,u)])∧
    ∀ base:Heap,(K w.params).In base→base.Ns mainGlobals mg→bO l.prog w (K w.params) mg base (CX w) k fa fd [x] (sp w))
  (hsp:∀ (w:World) (H:Hp) (a:Addr) (ns:List Int),ns.length≤n→Only H→SqL (K w.params) H a (ns.map V.int)→sp w [.ref a] H (fun v _=>v=.bl true) fun _ _ _=>False)
  (hCX:∀ (w:World) (H:Hp) (s:Shared) (e:Value) (s':Shared),CX w [] H s (fun _ _ _=>False) e s'→False) :
  WalkO q loose XP YP l.row.toRowW d [] (fun f vs=>PySem.call f vs):=by
 refine Att.attach_call hn hdf fun w s₀ s₁ mg mb fa o pm cd doc a vs ns G Y ho hd hcd hmg hobj hints hlen hg=>?_
 have KX:=hY w _ Y
 obtain ⟨fd,hb,hF⟩:=F w mg fa _ KX G.T.g hmg
 exact law_call KX G.T.g G.T.b G.T.builtins G.T.nolimit hg hobj hints (Nat.le_trans hlen hn2) hr hF hb (fun H hO hS=>hsp w H a ns hlen hO hS) fun H e s'=>hCX w H s₁ e s'
theorem walk_ofK {l:OpenLaw} {n k:Nat} {q:Program} {loose:List Str} {XP:(Str→Option Value)→Heap→Prop} {YP:World→Heap→Prop} {d:DefRec} {K:Params→Frag} {CX:CXT} {sp:Frag→Sp} {x:Str}
  (hn:l.most=some n) (hn2:n≤sizeLine) (hdf:d.params.defaults=[]) (hr:aQ k callerA)
  (hY:∀ (w:World) (h:Heap),YP w h→(K w.params).In h)
  (F:∀ (w:World) (mg:Str→Option Value) (fa:Addr) (h:Heap),(K w.params).In h→h.Ns mainGlobals mg→mg d.name=some (.ref fa)→
   ∃ fd:FuncData,(∀ (s:Shared) (u:Value),BindsTo s fd ⟨[u],[]⟩ [(x,u)])∧
    ∀ base:Heap,(K w.params).In base→base.Ns mainGlobals mg→bO l.prog w (K w.params) mg base CX k fa fd [x] (sp (K w.params)))
  (hsp:∀ (K:Frag) (H:Hp) (a:Addr) (ns:List Int),ns.length≤n→Only H→SqL K H a (ns.map V.int)→sp K [.ref a] H (fun v _=>v=.bl true) fun _ _ _=>False)
  (hCX:∀ (H:Hp) (s:Shared) (e:Value) (s':Shared),CX [] H s (fun _ _ _=>False) e s'→False) :
  WalkO q loose XP YP l.row.toRowW d [] (fun f vs=>PySem.call f vs):=
 walk_of (K:=K) (CX:=fun _=>CX) (sp:=fun w=>sp (K w.params)) hn hn2 hdf hr hY F (fun w H a ns h1 h2 h3=>hsp (K w.params) H a ns h1 h2 h3) fun _ H s e s'=>hCX H s e s'
end L2
namespace L2
open PySem PySem.Spec PyProof.Rows
def inClass (s:Stmt) (j:Nat):Stmt:=match s with
 | .ClassDef _ _ _ body _ _ _ _ _ _ _=>body.getD j (.Pass ⟨0,0,0,0⟩)
 | _=>.Pass ⟨0,0,0,0⟩
def defArgs (s:Stmt):Arguments:=match s with
 | .FunctionDef _ a _ _ _ _ _ _ _ _=>a
 | _=>{ posonlyargs:=[],args:=[],vararg:=none,kwonlyargs:=[],kw_defaults:=[],kwarg:=none,defaults:=[] }
def defBody (s:Stmt):List Stmt:=match s with
 | .FunctionDef _ _ b _ _ _ _ _ _ _=>b
 | _=>[]
def defScope (s:Stmt):Scope:=match s with
 | .FunctionDef _ _ _ _ _ _ sc _ _ _=>sc
 | _=>{ kind:=.function,names:=[],isGenerator:=false,isCoroutine:=false }
abbrev CX0:CXT:=fun _ _ _ _ _ _=>False
abbrev E0:XK:=fun _ _ _=>False
theorem iv {X:Cx}:bW CX0 X E0:=fun _ _ _ _ _ _ _ h=>h.elim
structure Fun (K:Frag) (x qual:Str) (st:Stmt) (f:Addr) (fd:FuncData):Prop where
 ex:∃ (oc:Value) (od:Option Addr) (kV doc pm:Value) (an:Option Addr) (cdv ct:Value) (osl:Array (Option Value)),
  fd=fnOf x qual (defArgs st) (defBody st) (defScope st) .none kV doc pm an cdv ct∧K.lookup f=some ⟨oc,od,.func fd,osl⟩∧codeIn K cdv qual=true
 kp:keepIn K (.ref f)=true
section
variable {P:Program} {w:World} {K:Frag} {mg:Str→Option Value} {base:Heap}
theorem Fun.ok {x qual:Str} {st:Stmt} {f:Addr} {fd:FuncData} {N ps:List Str} {k:Nat} {sp:Sp} (F:Fun K x qual st f fd) (S:bU N ps (defScope st)) (len:∀ vs H Q E,sp vs H Q E→vs.length=ps.length)
  (hbody:∀ (cdv:Value) (A:Around) (outer:List Env) (s:Shared) (H:Hp) (vs:List V) (Q:VK) (E:XK),aQ k (A.deeper (envOfC qual (defScope st) s.heap.objs.size f cdv))→sp vs H Q E→
   ∃ t,PSs (dP CX0 P w K mg base N qual (defScope st) f cdv A outer s H E).nox (defBody st) t∧t { nx:=fun _ H'=>Q .non H',rt:=Q } (start N vs) H):bO P w K mg base CX0 (k+1) f fd ps sp:=by
 obtain ⟨oc,od,kV,doc,pm,an,cdv,ct,osl,rfl,lk,hcd⟩:=F.ex
 refine fn_of lk hcd S len fun A outer s H vs Q E hr hsp=>?_
 obtain ⟨t,h,q⟩:=hbody cdv A outer s H vs Q E hr hsp
 exact ⟨t,h.nox,q⟩
theorem Fun.binds {x qual:Str} {st:Stmt} {f:Addr} {fd:FuncData} {ps:List Str} (F:Fun K x qual st f fd)
  (h:∀ (kV doc pm:Value) (an:Option Addr) (cdv ct:Value) (us:List Value),us.length=ps.length→bindArgs (fnOf x qual (defArgs st) (defBody st) (defScope st) .none kV doc pm an cdv ct) ⟨us,[]⟩=pure (ps.zip us)):Binds K fd ps []:=by
 obtain ⟨oc,od,kV,doc,pm,an,cdv,ct,osl,rfl,lk,hcd⟩:=F.ex
 exact .all (h kV doc pm an cdv ct)
theorem gF {x qual:Str} {st:Stmt} {f:Addr} {oc:Value} {od an:Option Addr} {osl:Array (Option Value)} {kV doc pm cdv ct:Value} (l:K.lookup f=some ⟨oc,od,.func (fnOf x qual (defArgs st) (defBody st) (defScope st) .none kV doc pm an cdv ct),osl⟩)
 (c:codeIn K cdv qual=true) (k:keepIn K (.ref f)=true):Fun K x qual st f (fnOf x qual (defArgs st) (defBody st) (defScope st) .none kV doc pm an cdv ct):=⟨⟨oc,od,kV,doc,pm,an,cdv,ct,osl,rfl,l,c⟩,k⟩
end
section
variable {X:Cx}
theorem pv (i:Nat) {x:Str} {pos:Pos} (hN:X.N[i]?=some x:=by rfl) (hv:Vis X.env.scope x:=by first | exact Or.inl rfl | exact Or.inr (Or.inl rfl) | exact Or.inr (Or.inr rfl)) (hd:(x==("__debug__" : Str))=false:=by decide)
 (hcd:(x==("__classdict__" : Str))=false:=by decide):PE X (.Name x pos) (tVar i):=pe_var hN hv hd hcd
end
def aB (H H':Hp):Prop:=∀ b o,H b=some o→H' b=some o
theorem aB.refl (H:Hp):aB H H:=fun _ _ h=>h
theorem aB.trans {H H1 H2:Hp} (a:aB H H1) (b:aB H1 H2):aB H H2:=fun c o h=>b c o (a c o h)
theorem aB.free {H H':Hp} (e:aB H H') {l:Addr} (h:H' l=Option.none):H l=Option.none:=by
 cases q:H l with
 | none=>rfl
 | some o=>
  rw [e l o q] at h
  cases h
end L2
end
section
namespace L2
open PySem PySem.Spec PyProof.Rows
theorem jH {prog:Program} {w:World} {A:Around} {R:Result→Shared→Prop} {s:Shared} {elt target iter:Expr} {ifs:List Expr} {scope:Scope} {pos:Pos} {it acc:Value} {env:Env} (J:Nat→Shared→Prop)
  (turn:∀ n s,J n s→wpAny (model prog w) A (pyNext it) (fun r s₁=>match r with
   | none=>R (.ok .next) s₁
   | some v=>wpAny (model prog w) A (letOwnedTupleGo target it v) (fun _ s₂=>wpAny (model prog w) A (assign target env v) (fun _ s₃=>
    wpAny (model prog w) A (forIn ifs true fun c r=>if r=true then do let ok ←isTrue c env (eval c env);pure (ForInStep.yield ok) else pure (ForInStep.yield r)) (fun ok s₄=>
     if ok=true then wpAny (model prog w) A (eval elt env) (fun x s₅=>
      wpAny (model prog w) A (call (.builtin "list.append") [acc,x]) (fun _ s₆=>∃ m,m<n∧J m s₆) (fun _ _=>False) s₅) (fun _ _=>False) s₄
     else ∃ m,m<n∧J m s₄) (fun _ _=>False) s₃) (fun _ _=>False) s₂) (fun _ _=>False) s₁) (fun _ _=>False) s)
  (n:Nat) (h:J n s) :
  codeAny (model prog w) A (.compLoop (.ListComp elt [⟨target,iter,ifs,0⟩] scope pos) 0 it acc env) R s:=by
 refine codeAny_loop rfl J (fun n s hI=>?_) n h
 show wpAny _ A ((compTurn (.ListComp elt [⟨target,iter,ifs,0⟩] scope pos) 0 it acc env).onRaise (fun x=>do noteFrame x env;theTreesLotGoes x)) _ _ s
 refine wpAny_noted ?_
 rw [compTurn_list]
 refine wpAny_bind (wpAny_standAt (wpAny_bind (wpAny_mono (turn n s hI) (fun r s₁ h₁=>?_) fun _ _ z=>z.elim)))
 cases r with
 | none=>exact wpAny_pure h₁
 | some v=>
  refine wpAny_bind (wpAny_mono h₁ (fun _ s₂ h₂=>?_) fun _ _ z=>z.elim)
  refine wpAny_bind (wpAny_mono h₂ (fun _ s₃ h₃=>wpAny_bind (wpAny_mono h₃ (fun ok s₄ h₄=>?_) fun _ _ z=>z.elim)) fun _ _ z=>z.elim)
  cases ok with
  | false=>exact wpAny_pure ⟨rfl,h₄⟩
  | true=>
   exact wpAny_bind (wpAny_bind (wpAny_mono h₄ (fun x s₅ h₅=>wpAny_bind (wpAny_mono h₅ (fun _ s₆ h₆=>wpAny_pure (wpAny_pure ⟨rfl,h₆⟩)) fun _ _ z=>z.elim)) fun _ _ z=>z.elim))
def cU (cs:List (Str×Addr)):List (Str×NameKind)→List (Str×Addr)→List (Str×Addr)
  | [],acc=>acc
  | (n,k)::r,acc=>if k==.free then cU cs r ((n,(cs.lookup n).getD 0)::acc) else cU cs r acc
theorem dw {scope:Scope} {env:Env} (h:∀ p∈scope.names,p.2=.free→∃ c,env.cells.lookup p.1=some c):closureFor scope env=pure (cU env.cells scope.names []):=by
  simp only [closureFor]
  have go:∀ (ns:List (Str×NameKind)) (acc:List (Str×Addr)),(∀ p∈ns,p.2=.free→∃ c,env.cells.lookup p.1=some c)→
      (forIn ns acc fun (x:Str×NameKind) (r:List (Str×Addr))=>(match x with | (name,kind)=>if (kind==NameKind.free)=true then do let y ←cellOf env name;pure (ForInStep.yield ((name,y)::r)) else pure (ForInStep.yield r):Sem _))=(pure (cU env.cells ns acc):Sem _):=by
    intro ns
    induction ns with
    | nil=>intro acc _;rfl
    | cons p r ih=>
      intro acc hp
      obtain ⟨n,k⟩:=p
      rw [List.forIn_cons]
      by_cases hk:k=.free
      · subst hk
        obtain ⟨c,hc⟩:=hp (n,.free) List.mem_cons_self rfl
        have hc:env.cells.lookup n=some c:=hc
        have e1:cellOf env n=pure c:=by unfold cellOf;rw [hc]
        simp only [e1,beq_self_eq_true,if_true,pure_bind,cU,hc,Option.getD_some]
        exact ih _ fun p hp'=>hp p (List.mem_cons_of_mem _ hp')
      · have hb:(k==NameKind.free)=false:=by simpa using hk
        simp only [hb,Bool.false_eq_true,if_false,pure_bind,cU]
        exact ih _ fun p hp'=>hp p (List.mem_cons_of_mem _ hp')
  have:=go scope.names [] h
  first
    | (rw [this];rfl)
    | (simp only [this];rfl)
    | simpa using this
theorem ic {cs:List (Str×Addr)} {x:Str} {c:Addr}:∀ (ns:List (Str×NameKind)) (acc:List (Str×Addr)),(∀ p∈ns,p.2=.free→∃ c,cs.lookup p.1=some c)→(cU cs ns acc).lookup x=some c→acc.lookup x=some c∨cs.lookup x=some c
  | [],acc,_,h=>.inl h
  | (n,k)::r,acc,hp,h=>by
    unfold cU at h
    by_cases hk:k=.free
    · subst hk
      simp only [beq_self_eq_true,if_true] at h
      obtain ⟨d,hd⟩:=hp (n,.free) List.mem_cons_self rfl
      have hd:cs.lookup n=some d:=hd
      rcases ic r _ (fun p hp'=>hp p (List.mem_cons_of_mem _ hp')) h with q | q
      · rw [List.lookup_cons] at q
        cases hx:x==n with
        | true=>
          rw [hx] at q
          have e:x=n:=by simpa using hx
          subst e
          rw [hd] at q
          simp at q
          exact .inr (by rw [hd,q])
        | false=>rw [hx] at q;exact .inl q
      · exact .inr q
    · have hb:(k==NameKind.free)=false:=by simpa using hk
      simp only [hb,Bool.false_eq_true,if_false] at h
      exact ic r _ (fun p hp'=>hp p (List.mem_cons_of_mem _ hp')) h
theorem iw {cs:List (Str×Addr)} {x:Str}:∀ (ns:List (Str×NameKind)) (acc:List (Str×Addr)),(∃ c,acc.lookup x=some c)→∃ c,(cU cs ns acc).lookup x=some c
  | [],acc,h=>h
  | (n,k)::r,acc,h=>by
    unfold cU
    split
    · refine iw r _ ?_
      rw [List.lookup_cons]
      cases hx:x==n with
      | true=>exact ⟨_,rfl⟩
      | false=>exact h
    · exact iw r _ h
theorem dC {cs:List (Str×Addr)} {x:Str}:∀ (ns:List (Str×NameKind)) (acc:List (Str×Addr)),(x,NameKind.free)∈ns→∃ c,(cU cs ns acc).lookup x=some c
  | [],_,h=>by simp at h
  | (n,k)::r,acc,h=>by
    unfold cU
    rcases List.mem_cons.mp h with e | h
    · cases e
      simp only [beq_self_eq_true,if_true]
      exact iw r _ ⟨_,by rw [List.lookup_cons,beq_self_eq_true]⟩
    · split
      · exact dC r _ h
      · exact dC r _ h
theorem bv {env:Env}:∀ {names:List (Str×NameKind)} {x:Str} {k:NameKind},
    (names.map fun (n,k)=>if (k==NameKind.free&&env.scope.kind==.function&&env.kindOf n==some .cell) then (n,NameKind.cell) else (n,k)).lookup x=some k→
    names.lookup x=some k∨names.lookup x=some .free
  | [],_,_,h=>by simp at h
  | (n,k')::r,x,k,h=>by
    have ih:=@bv env r x k
    have h:List.lookup x ((if (k'==NameKind.free&&env.scope.kind==.function&&env.kindOf n==some .cell)=true then (n,NameKind.cell) else (n,k'))::(r.map fun (n,k)=>if (k==NameKind.free&&env.scope.kind==.function&&env.kindOf n==some .cell) then (n,NameKind.cell) else (n,k)))=some k:=h
    by_cases hc:(k'==NameKind.free&&env.scope.kind==.function&&env.kindOf n==some .cell)=true
    · rw [if_pos hc,List.lookup_cons] at h
      rw [List.lookup_cons]
      cases hx:x==n with
      | true=>
        have:k'=.free:=by simp at hc;exact hc.1.1
        rw [this];exact .inr rfl
      | false=>rw [hx] at h;exact ih h
    · rw [if_neg hc,List.lookup_cons] at h
      rw [List.lookup_cons]
      cases hx:x==n with
      | true=>rw [hx] at h;exact .inl h
      | false=>rw [hx] at h;exact ih h
theorem cO {env:Env} {x:Str}:∀ (ns:List (Str×NameKind)),ns.lookup x=some .free→
    (ns.map fun (n,k)=>if (k==NameKind.free&&env.scope.kind==.function&&env.kindOf n==some .cell) then (n,NameKind.cell) else (n,k)).lookup x≠some .local
  | [],h=>by simp at h
  | (n,k')::r,h=>by
    have ih:=@cO env x r
    show List.lookup x ((if (k'==NameKind.free&&env.scope.kind==.function&&env.kindOf n==some .cell)=true then (n,NameKind.cell) else (n,k'))::(r.map fun (n,k)=>if (k==NameKind.free&&env.scope.kind==.function&&env.kindOf n==some .cell) then (n,NameKind.cell) else (n,k)))≠some .local
    rw [List.lookup_cons] at h
    by_cases hc:(k'==NameKind.free&&env.scope.kind==.function&&env.kindOf n==some .cell)=true
    · rw [if_pos hc,List.lookup_cons]
      cases hx:x==n with
      | true=>intro z;cases z
      | false=>rw [hx] at h;exact ih h
    · rw [if_neg hc,List.lookup_cons]
      cases hx:x==n with
      | true=>rw [hx] at h;intro z;rw [show some k'=some NameKind.free from h] at z;cases z
      | false=>rw [hx] at h;exact ih h
def aV (X:Cx) (N:List Str) (scope:Scope) (cl:List (Str×Addr)) (C:Addr) (s:Shared) (H:Hp) (fp:List Addr):Cx:=
 { X with N:=N,s₀:=s,H₀:=H,env:=compEnvC scope cl C X.env,outer:=X.stack,stack:=X.stack,ex:=fp,fn:=fun _=>false,pn:=[],xe:=fun _ _=>False }
def PIfs (X:Cx) (ifs:List Expr) (t:TT):Prop:=
 ∀ (pins:List (Addr×Obj)) (s:Shared) (σ:St) (H:Hp) (Q:Bool→Hp→Prop),Inv X pins σ H s→t σ H Q→
  wpAny (model X.prog X.w) X.A (forIn ifs true fun c r=>if r=true then do let ok ←isTrue c X.env (eval c X.env);pure (ForInStep.yield ok) else pure (ForInStep.yield r)) (TP X pins σ Q) X.xe s
def tYes:TT:=fun _ H Q=>Q true H
theorem pifs_nil {X:Cx}:PIfs X [] tYes:=fun _ _ _ H _ I h=>wpAny_tests_nil ⟨H,I,h⟩
structure bA (X:Cx) (N:List Str) (m:Nat) (ix:List Nat) (scope:Scope):Prop where
 kind:scope.kind=.function
 nocell:∀ y∈scope.names,y.2≠.cell
 names:∀ y∈scope.names,y.2=.local→scope.names.lookup y.1=some .local
 len:N.length=m+ix.length
 frees:∀ y∈scope.names,y.2=.free→X.env.kindOf y.1=some .cell∨X.env.kindOf y.1=some .free
 share:∀ (j:Nat) (i:Nat) (x:Str),ix[j]?=some i→N[m+j]?=some x→X.N[i]?=some x∧scope.names.lookup x=some .free
def b6 (m:Nat) (ix:List Nat) (σ:St):St:=List.replicate m none++ix.map fun i=>(σ[i]?).join
def cLoop (J:It) (g:TG) (tt:TT) (te:TE) (D:Addr) (W:Nat→Nat→St→Hp→Prop) (Q:VK):Prop:=
 ∀ i n σ H,W i n σ H→(J.stop i H∧Q (.ref D) H)∨(J.go i H∧∃ N:St→Hp→Prop,(∀ σ' H',N σ' H'→∃ n',n'<n∧W (i+1) n' σ' H')∧
  ∀ x H',J.yld i H x H'→g x σ H' fun σ2 H2=>tt σ2 H2 fun b H3=>if b=true then te σ2 H3 fun v H4=>∃ ys,H4 D=some (.lst ys)∧ys.length<sizeLine∧N σ2 (upd H4 D (.lst (ys++[v]))) else N σ2 H3)
def je (wi:TI) (g:TG) (tt:TT) (te:TE) (m:Nat) (ix:List Nat):TE:=fun σ H Q=>wi σ H fun J H1=>∀ D,H1 D=none→
 ∃ W:Nat→Nat→St→Hp→Prop,(∃ n,W 0 n (b6 m ix σ) (upd H1 D (.lst [])))∧cLoop J g tt te D W Q
section
variable {X:Cx} {tg elt iter:Expr} {ifs:List Expr} {scope:Scope} {pos:Pos} {N:List Str} {m:Nat} {ix:List Nat} {g:TG} {tt:TT} {te:TE}
theorem jf {pins:List (Addr×Obj)} {s2:Shared} {σ:St} {H2:Hp} {it:Addr} {fp:List Addr} {tn:Nat→Heap→Prop} {J:It} {Q:VK} {E:Value→Shared→Prop} {RR:Value→Addr→Result→Shared→Prop}
  (I2:Inv X pins σ H2 s2) (T:Turn X.prog X.w X.K tg J fp it tn) (st2:tn 0 s2.heap) (f2:∀ b∈fp,hJ X pins H2 b) (hc:X.calm=true) (S:bA X N m ix scope)
  (hin:∀ cl C s H fp,PG (aV X N scope cl C s H fp) tg g∧PIfs (aV X N scope cl C s H fp) ifs tt∧PE (aV X N scope cl C s H fp) elt te)
  (hW:∀ D,H2 D=none→∃ W:Nat→Nat→St→Hp→Prop,(∃ n,W 0 n (b6 m ix σ) (upd H2 D (.lst [])))∧cLoop J g tt te D W Q)
  (fin:∀ D C Hf s',Inv X pins σ Hf s'→Q (.ref D) Hf→(∃ mm,s'.heap.Ns C mm)→Hf C=none→C≠X.env.locals→X.s₀.heap.objs.size≤C→(∀ x c,X.env.cells.lookup x=some c→c≠C)→(∀ p∈X.pn++pins,p.1≠C)→RR (.ref D) C (.ok .next) s') :
  wpAny (model X.prog X.w) X.A (newList []) (fun acc s₃=>wpAny (model X.prog X.w) X.A (newFunctionEnv scope X.env.globals (cU X.env.cells scope.names []) [] X.env.qual none .none (some X.env)) (fun cenv s₄=>
   codeAny (model X.prog X.w) X.A (.compStart (.ListComp elt [⟨tg,iter,ifs,0⟩] scope pos) 0 (.ref it) acc { cenv with scope:=relabel scope X.env }) (RR acc cenv.locals) s₄) E s₃) E s2:=by
 have hcl:∀ p∈scope.names,p.2=.free→∃ c,X.env.cells.lookup p.1=some c:=fun p hp hk=>I2.ok.has _ (S.frees p hp hk)
 refine wpAny_newObj_type (wpAny_newFunctionEnv S.nocell (by intro y hy;simp at hy) (fun h₁ hns₁ hsb₁=>?_) S.kind)
 dsimp only at hns₁ hsb₁ ⊢
 obtain ⟨W,⟨n0,w0⟩,loop⟩:=hW s2.heap.objs.size I2.fresh
 have I3:Inv X pins σ (upd H2 s2.heap.objs.size (.lst [])) { s2 with heap:=s2.heap.push { cls:=.type "list",dict:=none,data:=.seq ([]:List Value).toArray } }:=I2.lnew (t':=s2.toks) (ys:=[]) (its:=[]) .nil (Nat.zero_le _)
 generalize hs3:({ s2 with heap:=s2.heap.push { cls:=.type "list",dict:=none,data:=.seq ([]:List Value).toArray } }:Shared)=s3 at I3
 generalize hH3:upd H2 s2.heap.objs.size (.lst [])=H3 at I3 w0
 have e3:s3.heap=s2.heap.push { cls:=.type "list",dict:=none,data:=.seq ([]:List Value).toArray }:=by rw [←hs3]
 rw [←e3] at hns₁ hsb₁ ⊢
 generalize hC:s3.heap.objs.size=C at hns₁ hsb₁ ⊢
 have old2:∀ b o,s2.heap.get? b=some o→s3.heap.get? b=some o:=fun b o e=>by rw [e3];exact Heap.get?_push_of_some _ e
 have old3:∀ b o,s3.heap.get? b=some o→h₁.get? b=some o:=fun b o e=>hsb₁.extBut b o (by rw [←hC];exact Nat.ne_of_lt (Heap.lt_size e)) (Heap.get?_push_of_some _ e)
 have fp3:∀ b∈fp,hJ X pins H3 b:=fun b hb=>by
  obtain ⟨f0,f1,f2',f3,f4,f5⟩:=f2 b hb
  refine ⟨?_,f1,f2',f3,f4,f5⟩
  obtain ⟨o,ho,_⟩:=T.obj _ _ st2 b hb
  rw [←hH3,ak (Nat.ne_of_lt (Heap.lt_size ho))]
  exact f0
 have hCL:X.env.locals<C:=by rw [←hC];exact I3.lt
 have hCs:X.s₀.heap.objs.size≤C:=by rw [←hC];exact I3.sz
 have hCc:∀ x c,X.env.cells.lookup x=some c→c<C:=fun x c e=>by
  obtain ⟨v,q⟩:=I3.cell x c e
  rw [←hC];exact q.lt
 have hCp:∀ p∈X.pn++pins,p.1<C:=fun p hp=>by rw [←hC];exact Heap.lt_size (I3.pin p hp).1
 have hCf:∀ b∈fp,b<C:=fun b hb=>by
  obtain ⟨o,ho,_⟩:=T.obj _ _ st2 b hb
  rw [←hC];exact Heap.lt_size (old2 _ _ ho)
 let Y:Cx:=aV X N scope (cU X.env.cells scope.names []) C s3 H3 fp
 have cells_of:∀ x c,(cU X.env.cells scope.names []).lookup x=some c→X.env.cells.lookup x=some c:=fun x c e=>by
  rcases ic _ _ hcl e with q | q
  ·
   simp at q
  ·
   exact q
 have stkne:∀ b∈fp,b∉frs X.stack:=fun b hb hs=>by
  obtain ⟨_,f1,f2',_⟩:=fp3 b hb
  rcases List.mem_cons.mp (I3.stkSub b hs) with e | e
  ·
   exact f1 e
  ·
   exact f2' e
 have okY:Y.Ok:=by
  refine ⟨I3.ok.mod,S.kind,I3.ok.glob,I3.ok.blt,by show s3.heap.objs.size≤C;rw [hC];exact Nat.le_refl _,fun x y c h1 h2=>I3.ok.inj x y c (cells_of x c h1) (cells_of y c h2),fun x hx=>?_,fun x c h _=>absurd (show false=true from h) (by simp),I3.ok.hd,I3.ok.frames,.inl rfl,fun b hb=>⟨?_,fun x c e=>?_⟩,fun b o e=>I3.bs b o e,Nat.le_trans I3.ok.bsz I3.sz,fun b o e hb=>?_,stkne,I3.stack,I3.stkFree⟩
  ·
   have hx':(relabel scope X.env).names.lookup x=some .cell∨(relabel scope X.env).names.lookup x=some .free:=hx
   have hf:scope.names.lookup x=some .free:=by
    rcases hx' with q | q
    ·
     rcases bv q with z | z
     ·
      exact absurd rfl (S.nocell _ (PySem.mem_of_lookup z))
     ·
      exact z
    ·
     rcases bv q with z | z
     ·
      exact z
     ·
      exact z
   exact dC _ _ (PySem.mem_of_lookup hf)
  ·
   exact Nat.ne_of_lt (hCf b hb)
  ·
   exact (fp3 b hb).2.2.2.2.1 x c (cells_of x c e)
  ·
   rcases (fp3 b hb).2.2.2.1 with z | z
   ·
    exact I3.ok.noex b o e z
   ·
    exact absurd (Nat.lt_of_lt_of_le (Heap.lt_size (I3.ok.bs b o e).1) z) (Nat.lt_irrefl _)
 have IY:Inv Y (X.pn++pins) (b6 m ix σ) H3 { s3 with heap:=h₁,toks:=s3.toks+([]:List (Str×Value)).length }:=by
  refine ⟨okY,rfl,I3.bare,Un.kept old3,⟨_,hns₁,fun j x v hx hv hvis=>?_⟩,fun x c e=>?_,I3.hok.fresh (by rw [hC];exact Nat.le_refl _),fun x c e=>I3.freeC x c (cells_of x c e),fun p hp=>?_,I3.hok.kept old3,?_⟩
  ·
   have hx:N[j]?=some x:=hx
   unfold b6 at hv
   by_cases hj:j<m
   ·
    rw [List.getElem?_append_left (by simpa using hj),List.getElem?_replicate] at hv
    split at hv <;> cases hv
   ·
    obtain ⟨k,rfl⟩ : ∃ k,j=m+k:=⟨j-m,by omega⟩
    rw [List.getElem?_append_right (by simp),List.length_replicate,Nat.add_sub_cancel_left,List.getElem?_map] at hv
    cases hi:ix[k]? with
    | none=>rw [hi] at hv;cases hv
    | some i=>
     rw [hi] at hv
     have hv':(σ[i]?).join=some v:=by simpa using hv
     have hv'':σ[i]?=some (some v):=by
      cases q:σ[i]? with
      | none=>rw [q] at hv';cases hv'
      | some z=>rw [q] at hv';simp at hv';rw [hv']
     obtain ⟨hXN,hfree⟩:=S.share k i x hi hx
     obtain ⟨mm,hn,hl⟩:=I3.loc
     have hkx:X.env.kindOf x=some .cell∨X.env.kindOf x=some .free:=S.frees (x,.free) (PySem.mem_of_lookup hfree) rfl
     have hvisX:Vis X.env.scope x:=by
      rcases hkx with q | q
      ·
       exact .inr (.inl q)
      ·
       exact .inr (.inr q)
     obtain ⟨u,r,l⟩:=hl i x v hXN hv'' hvisX
     refine ⟨u,r,.inr ⟨?_,?_⟩⟩
     ·
      have hvis:Vis (relabel scope X.env) x:=hvis
      rcases hvis with q | q | q
      ·
       rcases bv q with z | z
       ·
        rw [hfree] at z;cases z
       ·
        exact absurd q (cO scope.names hfree)
      ·
       exact .inl q
      ·
       exact .inr q
     ·
      obtain ⟨c,hcc⟩:=dC (cs:=X.env.cells) scope.names [] (PySem.mem_of_lookup hfree)
      refine ⟨c,hcc,?_⟩
      have hXc:=cells_of x c hcc
      rcases l with ⟨k1,_⟩ | ⟨_,c',e',z⟩
      ·
       exfalso
       have k1:X.env.kindOf x=some .local:=k1
       rcases hkx with q | q <;> rw [k1] at q <;> cases q
      ·
       rw [hXc] at e';cases e'
       obtain ⟨o,ho,hd⟩:=z
       exact ⟨o,old3 _ _ ho,hd⟩
  ·
   obtain ⟨v,o,ho,hd⟩:=I3.cell x c (cells_of x c e)
   exact ⟨v,o,old3 _ _ ho,hd⟩
  ·
   have hp':p∈X.pn++pins:=by
    have:p∈([]:List (Addr×Obj))++(X.pn++pins):=hp
    simpa using this
   obtain ⟨e,nn,ne,nf,d⟩:=I3.pin p hp'
   refine ⟨old3 _ _ e,nn,Nat.ne_of_lt (hCp p hp'),fun hs=>?_,d⟩
   rcases List.mem_cons.mp (I3.stkSub p.1 hs) with z | z
   ·
    exact ne z
   ·
    exact nf z
  ·
   unfold b6
   show _=N.length
   rw [S.len,List.length_append,List.length_replicate,List.length_map]
 have stat:∀ {H':Hp},(∀ b∈fp,H' b=none)→∀ b∈fp,hJ Y (X.pn++pins) H' b:=fun hn b hb=>by
  obtain ⟨f0,f1,f2',f3,f4,f5⟩:=fp3 b hb
  refine ⟨hn b hb,Nat.ne_of_lt (hCf b hb),stkne b hb,.inl hb,fun x c e=>f4 x c (cells_of x c e),fun p hp=>?_⟩
  have hp':p∈X.pn++pins:=by
   have:p∈([]:List (Addr×Obj))++(X.pn++pins):=hp
   simpa using this
  exact f5 p hp'
 obtain ⟨hg,ht,he⟩:=hin (cU X.env.cells scope.names []) C s3 H3 fp
 have st4:tn 0 h₁:=T.keep _ _ _ st2 fun b _ o e=>old3 _ _ (old2 _ _ e)
 have run:∀ s4:Shared,s4={ s3 with heap:=h₁,toks:=s3.toks+([]:List (Str×Value)).length }→
   codeAny (model X.prog X.w) X.A (.compLoop (.ListComp elt [⟨tg,iter,ifs,0⟩] scope pos) 0 (.ref it) (.ref s2.heap.objs.size) (compEnvC scope (cU X.env.cells scope.names []) C X.env)) (RR (.ref s2.heap.objs.size) C) s4:=by
  rintro s4 rfl
  refine jH (fun n s'=>∃ i σ' H',Inv Y (X.pn++pins) σ' H' s'∧tn i s'.heap∧(∀ b∈fp,H' b=none)∧W i n σ' H') ?_ n0 ⟨0,_,_,IY,st4,fun b hb=>(fp3 b hb).1,w0⟩
  rintro n s5 ⟨i,σ5,H5,I5,st5,fr5,w5⟩
  rcases loop i n σ5 H5 w5 with ⟨stop,qn⟩ | ⟨go,NN,hN,step⟩
  ·
   refine thn (T.done Y rfl rfl rfl hc i (X.pn++pins) s5 σ5 H5 (fun _ _=>False) I5 (stat fr5) st5 stop) fun r s6 ⟨hr,I6⟩=>?_
   subst hr
   have J6:Inv X pins σ H5 s6:=by
    refine I3.call' (ch:=fp) ?_ I6.base I6.hok I6.bare fun b hb=>?_
    ·
     exact I6.os
    ·
     obtain ⟨f0,f1,f2',f3,f4,f5⟩:=fp3 b hb
     exact ⟨f3,f1,f4,f5⟩
   obtain ⟨mm,hn6,_⟩:=I6.loc
   exact fin _ C H5 s6 J6 qn ⟨mm,hn6⟩ I6.free (Nat.ne_of_gt hCL) hCs (fun x c e=>Nat.ne_of_lt (hCc x c e)) fun p hp=>Nat.ne_of_lt (hCp p hp)
  ·
   refine thn (T.item Y rfl rfl rfl hc i (X.pn++pins) s5 σ5 H5 (fun _ _=>False) I5 (stat fr5) st5 go) fun r s6 ⟨u,hr,h6⟩=>?_
   subst hr
   refine thn h6 fun _ s7 ⟨x,H7,I7,r7,y7,st7,fr7⟩=>?_
   have I7':=I7.pinned (stat fr7) (T.obj _ _ st7)
   refine thn (hg _ s7 σ5 H7 x u _ I7' r7 (step x H7 y7)) fun _ s8 ⟨σ8,H8,I8,q8⟩=>?_
   refine thn (ht _ s8 σ8 H8 _ I8 q8) fun ok s9 ⟨H9,I9,q9⟩=>?_
   have again:∀ {s':Shared} {σ':St} {H':Hp},Inv Y ((X.pn++pins)++gA fp s7.heap) σ' H' s'→NN σ' H'→∃ m',m'<n∧∃ i σ' H',Inv Y (X.pn++pins) σ' H' s'∧tn i s'.heap∧(∀ b∈fp,H' b=none)∧W i m' σ' H':=fun {s' σ' H'} I' n'=>by
    obtain ⟨m',hm,w'⟩:=hN σ' H' n'
    refine ⟨m',hm,i+1,σ',H',I'.unpinned,T.keep _ _ _ st7 fun b hb o e=>(I'.pin (b,o) (List.mem_append_right _ (List.mem_append_right _ (cq hb e)))).1,fun b hb=>?_,w'⟩
    obtain ⟨o,e,d⟩:=T.obj _ _ st7 b hb
    exact (I'.pin (b,o) (List.mem_append_right _ (List.mem_append_right _ (cq hb e)))).2.1
   cases ok with
   | false=>exact again I9 q9
   | true=>
    refine thn (he _ s9 σ8 H9 _ I9 q9) fun y s10 ⟨vy,H10,I10,r10,ys,hD,hz,q10⟩=>?_
    exact thn (gE (X:=Y) _ s10 σ8 H10 (.ref s2.heap.objs.size) [vy] _ [y] (fun _ H'=>NN σ8 H') I10 rfl (.cons r10 .nil) ⟨_,ys,vy,rfl,rfl,hD,hz,q10⟩) fun _ s11 ⟨_,H11,I11,_,q11⟩=>again I11 q11
 exact codeAny_compStart_list (run _ (by rw [←hs3])) (T.self _ 0 _ _ _ st4 (run _ (by rw [←hs3])))
theorem pe_comp {wi:TI} (hc:X.calm=true) (S:bA X N m ix scope) (hi:PI X tg iter wi)
  (hin:∀ cl C s H fp,PG (aV X N scope cl C s H fp) tg g∧PIfs (aV X N scope cl C s H fp) ifs tt∧PE (aV X N scope cl C s H fp) elt te)
  (hs:∀ x,foldedSetIterable iter X.env x=pure x:=by intro _;rfl):PE X (.ListComp elt [⟨tg,iter,ifs,0⟩] scope pos) (je wi g tt te m ix):=by
 intro pins s σ H Q I h
 rw [eval_ListComp]
 refine wpAny_comprehension_free (use:=none) rfl hs (dw fun p hp hk=>I.ok.has _ (S.frees p hp hk)) S.kind S.names ?_
 show wpAny _ _ (eval iter X.env) _ _ _
 refine thn (hi pins s σ H _ I h) fun v s1 h1=>thn h1 fun itv s2 h2=>?_
 obtain ⟨it,fp,tn,J,H2,rfl,I2,T,st2,f2,hW⟩:=h2
 refine jf (RR:=fun acc C=>compPost (model X.prog X.w) X.A X.xe none (EP X pins σ Q) acc C) I2 T st2 f2 hc S hin hW ?_
 intro D C Hf s' J' q hn hCf hCL hCs hCc hCp
 obtain ⟨mm,hn⟩:=hn
 refine ⟨mm,hn,fun h' hs'=>⟨.ref D,Hf,?_,rfl,q⟩⟩
 exact J'.turned (t':=s'.toks) (fun b o hb e=>hs'.extBut b o hb e) hCf hCL (.inr hCs) hCc hCp
theorem ps_comp {wi:TI} {y:Str} {py spos:Pos} {iy:Nat} (hc:X.calm=true) (S:bA X N m ix scope) (hi:PI X tg iter wi)
  (hin:∀ cl C s H fp,PG (aV X N scope cl C s H fp) tg g∧PIfs (aV X N scope cl C s H fp) ifs tt∧PE (aV X N scope cl C s H fp) elt te)
  (hN:X.N.Nodup) (hiy:X.N[iy]?=some y) (hy:Loc X.env.scope y)
  (hsw:swapsWith (.ListComp elt [⟨tg,iter,ifs,0⟩] scope pos) (some (.Name y py)) spos.line X.env=pure true:=by rfl)
  (hf:X.fn y=true∨X.env.scope.names.lookup y=some .local:=by first | exact .inl rfl | exact .inr rfl | assumption)
  (hs:∀ x,foldedSetIterable iter X.env x=pure x:=by intro _;rfl):PS X (.Assign [.Name y py] (.ListComp elt [⟨tg,iter,ifs,0⟩] scope pos) spos) (tAsg (je wi g tt te m ix) (i8 iy)):=by
 intro pins s σ H D0 I h
 rw [exec_Assign_Name_used _ _ _ _ hsw]
 refine wpAny_bind (wpAny_standAt (wpAny_bind ?_))
 show wpAny _ X.A (do let _ ←comprehension (.ListComp elt [⟨tg,iter,ifs,0⟩] scope pos) scope X.env _ (newList []) false (eval iter X.env) (some (assign (.Name y py) X.env))) _ _ s
 refine wpAny_bind (wpAny_mono (wpAny_comprehension_free (use:=some (assign (.Name y py) X.env)) (Q:=fun _ s'=>SP X pins D0 .next s') rfl hs (dw fun p hp hk=>I.ok.has _ (S.frees p hp hk)) S.kind S.names ?_) (fun _ s' hq=>wpAny_pure (wpAny_pure hq)) fun _ _ e=>e)
 refine thn (hi pins s σ H _ I h) fun v s1 h1=>thn h1 fun itv s2 h2=>?_
 obtain ⟨it,fp,tn,J,H2,rfl,I2,T,st2,f2,hW⟩:=h2
 refine jf (RR:=fun acc C=>compPost (model X.prog X.w) X.A X.xe (some (assign (.Name y py) X.env)) (fun _ s'=>SP X pins D0 .next s') acc C) I2 T st2 f2 hc S hin hW ?_
 intro D C Hf s' J' q hn hCf hCL hCs hCc hCp
 obtain ⟨mm,hn⟩:=hn
 show wpAny _ X.A (assign (.Name y py) X.env (.ref D)) _ _ _
 refine wpAny_assign_Name (gz (v:=.ref D) J' hN hiy hy rfl (fun s'' I'' hsb=>?_) hf)
 obtain ⟨a,hsb,ha⟩:=hsb
 have hCa:C≠a:=by
  rcases ha with e | e
  ·
   rw [e];exact hCL
  ·
   exact fun z=>hCc y a e z.symm
 refine ⟨mm,hn.sameBut hsb hCa,fun h' hs'=>⟨_,Hf,?_,q⟩⟩
 exact I''.turned (t':=s''.toks) (fun b o hb e=>hs'.extBut b o hb e) hCf hCL (.inr hCs) hCc hCp
end
end L2
end
section
namespace L2
open PySem PySem.Spec
theorem aB.updS {H H':Hp} (s:aB H H') {p:Addr} {o:HO}:aB (upd H p o) (upd H' p o):=fun b u e=>by
 by_cases hb:b=p
 ·
  subst hb;rw [aj] at e ⊢;exact e
 ·
  rw [ak hb] at e ⊢;exact s _ _ e
theorem aB.new {H:Hp} {p:Addr} {o:HO} (n:H p=none):aB H (upd H p o):=fun b u e=>by rw [ak (az e n)];exact e
theorem PE.weak {X:Cx} {e:Expr} {t t':TE} (h:PE X e t) (w:∀ σ H Q,t' σ H Q→t σ H Q):PE X e t':=fun pins s σ H Q I q=>h pins s σ H Q I (w σ H Q q)
theorem PT.weak {X:Cx} {e:Expr} {t t':TT} (h:PT X e t) (w:∀ σ H Q,t' σ H Q→t σ H Q):PT X e t':=fun pins s σ H Q I q=>h pins s σ H Q I (w σ H Q q)
theorem PW.weak {X:Cx} {e:Expr} {t t':TT} (h:PW X e t) (w:∀ σ H Q,t' σ H Q→t σ H Q):PW X e t':=fun wh pins s σ H Q I q=>h wh pins s σ H Q I (w σ H Q q)
theorem PA.weak {X:Cx} {es:List Expr} {t t':TA} (h:PA X es t) (w:∀ σ H Q,t' σ H Q→t σ H Q):PA X es t':=fun pos pins s σ H Q I q=>h pos pins s σ H Q I (w σ H Q q)
theorem PS.weak {X:Cx} {e:Stmt} {t t':TS} (h:PS X e t) (w:∀ D σ H,t' D σ H→t D σ H):PS X e t':=fun pins s σ H D I q=>h pins s σ H D I (w D σ H q)
theorem PSs.weak {X:Cx} {e:List Stmt} {t t':TS} (h:PSs X e t) (w:∀ D σ H,t' D σ H→t D σ H):PSs X e t':=fun pins s σ H D I q=>h pins s σ H D I (w D σ H q)
end L2
namespace Ew
open PySem PySem.Spec L2
inductive D where
 | non
 | bl (b:Bool)
 | int (i:Int)
 | str (x:Str)
 | lst (xs:List D)
 | tup (xs:List D)
 | obj (C:Addr) (fs:List (Str×D))
mutual
def Rep (H:Hp):D→V→Prop
 | .non,v=>v=.non
 | .bl b,v=>v=.bl b
 | .int i,v=>v=.int i
 | .str x,v=>v=.str x
 | .lst ds,v=>∃ a vs,v=.ref a∧H a=some (.lst vs)∧av H ds vs
 | .tup ds,v=>∃ a vs,v=.ref a∧H a=some (.tup vs)∧av H ds vs
 | .obj C fs,v=>∃ a dx fvs,v=.ref a∧H a=some (.ins C dx fvs)∧cF H fs fvs
def av (H:Hp):List D→List V→Prop
 | [],vs=>vs=[]
 | d::ds,vs=>∃ v r,vs=v::r∧Rep H d v∧av H ds r
def cF (H:Hp):List (Str×D)→List (Str×V)→Prop
 | [],vs=>vs=[]
 | fd::fs,vs=>∃ v r,vs=(fd.1,v)::r∧Rep H fd.2 v∧cF H fs r
end
section
variable {H H':Hp}
mutual
theorem Rep.mono (k:aB H H'):∀ (d:D) {v:V},Rep H d v→Rep H' d v
 | .non,_,h=>by unfold Rep at h ⊢;exact h
 | .bl b,_,h=>by unfold Rep at h ⊢;exact h
 | .int i,_,h=>by unfold Rep at h ⊢;exact h
 | .str x,_,h=>by unfold Rep at h ⊢;exact h
 | .lst ds,_,h=>by
  unfold Rep at h ⊢
  obtain ⟨a,vs,e,h1,h2⟩:=h
  exact ⟨a,vs,e,k _ _ h1,av.mono k ds h2⟩
 | .tup ds,_,h=>by
  unfold Rep at h ⊢
  obtain ⟨a,vs,e,h1,h2⟩:=h
  exact ⟨a,vs,e,k _ _ h1,av.mono k ds h2⟩
 | .obj C fs,_,h=>by
  unfold Rep at h ⊢
  obtain ⟨a,dx,vs,e,h1,h2⟩:=h
  exact ⟨a,dx,vs,e,k _ _ h1,cF.mono k fs h2⟩
theorem av.mono (k:aB H H'):∀ (ds:List D) {vs:List V},av H ds vs→av H' ds vs
 | [],_,h=>by unfold av at h ⊢;exact h
 | d::ds,_,h=>by
  unfold av at h ⊢
  obtain ⟨v,r,e,h1,h2⟩:=h
  exact ⟨v,r,e,Rep.mono k d h1,av.mono k ds h2⟩
theorem cF.mono (k:aB H H'):∀ (fs:List (Str×D)) {vs:List (Str×V)},cF H fs vs→cF H' fs vs
  | [],_,h=>by unfold cF at h ⊢;exact h
  | (f,d)::fs,_,h=>by
    unfold cF at h ⊢
    obtain ⟨v,r,e,h1,h2⟩:=h
    exact ⟨v,r,e,Rep.mono k d h1,cF.mono k fs h2⟩
end
end
theorem av.nil {H:Hp}:av H [] []:=by unfold av;rfl
theorem av.cons {H:Hp} {d:D} {ds:List D} {v:V} {vs:List V} (h:Rep H d v) (t:av H ds vs):av H (d::ds) (v::vs):=by unfold av;exact ⟨v,vs,rfl,h,t⟩
theorem av.length {H:Hp}:∀ {ds:List D} {vs:List V},av H ds vs→vs.length=ds.length
 | [],_,h=>by unfold av at h;rw [h];rfl
 | d::ds,_,h=>by
  unfold av at h
  obtain ⟨v,r,rfl,_,h2⟩:=h
  simp [av.length h2]
theorem av.get {H:Hp}:∀ {ds:List D} {vs:List V} {i:Nat} {d:D},av H ds vs→ds[i]?=some d→∃ v,vs[i]?=some v∧Rep H d v
 | [],_,i,_,_,e=>by simp at e
 | d::ds,_,0,d',h,e=>by
  unfold av at h
  obtain ⟨v,r,rfl,h1,h2⟩:=h
  simp at e;subst e
  exact ⟨v,rfl,h1⟩
 | d::ds,_,i+1,d',h,e=>by
  unfold av at h
  obtain ⟨v,r,rfl,h1,h2⟩:=h
  obtain ⟨u,e1,e2⟩:=av.get (i:=i) h2 (by simpa using e)
  exact ⟨u,by simpa using e1,e2⟩
theorem av.append {H:Hp}:∀ {ds es:List D} {vs us:List V},av H ds vs→av H es us→av H (ds++es) (vs++us)
 | [],_,_,_,h,t=>by unfold av at h;rw [h];exact t
 | d::ds,_,_,_,h,t=>by
  unfold av at h
  obtain ⟨v,r,rfl,h1,h2⟩:=h
  exact .cons h1 (av.append h2 t)
theorem av.take {H:Hp}:∀ {ds:List D} {vs:List V} (n:Nat),av H ds vs→av H (ds.take n) (vs.take n)
 | [],_,n,h=>by unfold av at h;rw [h];simp;exact .nil
 | d::ds,_,0,h=>by simp;exact .nil
 | d::ds,_,n+1,h=>by
  unfold av at h
  obtain ⟨v,r,rfl,h1,h2⟩:=h
  exact .cons h1 (av.take n h2)
theorem av.drop {H:Hp}:∀ {ds:List D} {vs:List V} (n:Nat),av H ds vs→av H (ds.drop n) (vs.drop n)
 | [],_,n,h=>by unfold av at h;rw [h];simp;exact .nil
 | d::ds,_,0,h=>by simpa using h
 | d::ds,_,n+1,h=>by
  unfold av at h
  obtain ⟨v,r,rfl,h1,h2⟩:=h
  exact av.drop n h2
theorem av.reverse {H:Hp}:∀ {ds:List D} {vs:List V},av H ds vs→av H ds.reverse vs.reverse
 | [],_,h=>by unfold av at h;rw [h];simp;exact .nil
 | d::ds,_,h=>by
  unfold av at h
  obtain ⟨v,r,rfl,h1,h2⟩:=h
  rw [List.reverse_cons,List.reverse_cons]
  exact av.append (av.reverse h2) (.cons h1 .nil)
theorem cF.lookup {H:Hp} {f:Str}:∀ {fs:List (Str×D)} {vs:List (Str×V)} {d:D},cF H fs vs→fs.lookup f=some d→∃ v,vs.lookup f=some v∧Rep H d v
  | [],_,_,_,e=>by simp at e
  | (g,d')::fs,_,d,h,e=>by
    unfold cF at h
    obtain ⟨v,r,rfl,h1,h2⟩:=h
    rw [List.lookup_cons] at e ⊢
    cases hx:f==g with
    | true=>rw [hx] at e;simp at e;subst e;exact ⟨v,by simp,h1⟩
    | false=>rw [hx] at e;exact cF.lookup h2 e
theorem cF.none {H:Hp} {f:Str}:∀ {fs:List (Str×D)} {vs:List (Str×V)},cF H fs vs→fs.lookup f=none→vs.lookup f=none
  | [],_,h,e=>by unfold cF at h;rw [h];rfl
  | (g,d')::fs,_,h,e=>by
    unfold cF at h
    obtain ⟨v,r,rfl,h1,h2⟩:=h
    rw [List.lookup_cons] at e ⊢
    cases hx:f==g with
    | true=>rw [hx] at e;simp at e
    | false=>rw [hx] at e;exact cF.none h2 e
mutual
def Own (H:Hp):D→V→List Addr→Prop
 | .non,v,L=>v=.non∧L=[]
 | .bl b,v,L=>v=.bl b∧L=[]
 | .int i,v,L=>v=.int i∧L=[]
 | .str x,v,L=>v=.str x∧L=[]
 | .lst ds,v,L=>∃ a vs M,v=.ref a∧H a=some (.lst vs)∧aI H ds vs M∧a∉M∧L=a::M
 | .tup ds,v,L=>∃ a vs M,v=.ref a∧H a=some (.tup vs)∧aI H ds vs M∧a∉M∧L=a::M
 | .obj C fs,v,L=>∃ a dx fvs M,v=.ref a∧H a=some (.ins C dx fvs)∧H dx=some (.own a)∧aR H fs fvs M∧a∉M∧dx∉M∧L=a::dx::M
def aI (H:Hp):List D→List V→List Addr→Prop
 | [],vs,L=>vs=[]∧L=[]
 | d::ds,vs,L=>∃ v r M N,vs=v::r∧Own H d v M∧aI H ds r N∧(∀ a∈M,a∉N)∧L=M++N
def aR (H:Hp):List (Str×D)→List (Str×V)→List Addr→Prop
 | [],vs,L=>vs=[]∧L=[]
 | fd::fs,vs,L=>∃ v r M N,vs=(fd.1,v)::r∧Own H fd.2 v M∧aR H fs r N∧(∀ a∈M,a∉N)∧L=M++N
end
section
variable {H H':Hp}
mutual
theorem Own.agree:∀ (d:D) {v:V} {L:List Addr},Own H d v L→(∀ a∈L,H' a=H a)→Own H' d v L
 | .non,_,_,h,_=>by unfold Own at h ⊢;exact h
 | .bl b,_,_,h,_=>by unfold Own at h ⊢;exact h
 | .int i,_,_,h,_=>by unfold Own at h ⊢;exact h
 | .str x,_,_,h,_=>by unfold Own at h ⊢;exact h
 | .lst ds,_,_,h,k=>by
  unfold Own at h ⊢
  obtain ⟨a,vs,M,e,h1,h2,n,rfl⟩:=h
  exact ⟨a,vs,M,e,by rw [k a List.mem_cons_self];exact h1,aI.agree ds h2 fun b hb=>k b (List.mem_cons_of_mem _ hb),n,rfl⟩
 | .tup ds,_,_,h,k=>by
  unfold Own at h ⊢
  obtain ⟨a,vs,M,e,h1,h2,n,rfl⟩:=h
  exact ⟨a,vs,M,e,by rw [k a List.mem_cons_self];exact h1,aI.agree ds h2 fun b hb=>k b (List.mem_cons_of_mem _ hb),n,rfl⟩
 | .obj C fs,_,_,h,k=>by
  unfold Own at h ⊢
  obtain ⟨a,dx,vs,M,e,h1,h3,h2,n,n2,rfl⟩:=h
  exact ⟨a,dx,vs,M,e,by rw [k a List.mem_cons_self];exact h1,by rw [k dx (List.mem_cons_of_mem _ List.mem_cons_self)];exact h3,aR.agree fs h2 fun b hb=>k b (List.mem_cons_of_mem _ (List.mem_cons_of_mem _ hb)),n,n2,rfl⟩
theorem aI.agree:∀ (ds:List D) {vs:List V} {L:List Addr},aI H ds vs L→(∀ a∈L,H' a=H a)→aI H' ds vs L
 | [],_,_,h,_=>by unfold aI at h ⊢;exact h
 | d::ds,_,_,h,k=>by
  unfold aI at h ⊢
  obtain ⟨v,r,M,N,e,h1,h2,n,rfl⟩:=h
  exact ⟨v,r,M,N,e,Own.agree d h1 fun b hb=>k b (List.mem_append_left _ hb),aI.agree ds h2 fun b hb=>k b (List.mem_append_right _ hb),n,rfl⟩
theorem aR.agree:∀ (fs:List (Str×D)) {vs:List (Str×V)} {L:List Addr},aR H fs vs L→(∀ a∈L,H' a=H a)→aR H' fs vs L
  | [],_,_,h,_=>by unfold aR at h ⊢;exact h
  | (f,d)::fs,_,_,h,k=>by
    unfold aR at h ⊢
    obtain ⟨v,r,M,N,e,h1,h2,n,rfl⟩:=h
    exact ⟨v,r,M,N,e,Own.agree d h1 fun b hb=>k b (List.mem_append_left _ hb),aR.agree fs h2 fun b hb=>k b (List.mem_append_right _ hb),n,rfl⟩
end
mutual
theorem Own.rep:∀ (d:D) {v:V} {L:List Addr},Own H d v L→(∀ a∈L,H' a=H a)→Rep H' d v
 | .non,_,_,h,_=>by unfold Own at h;unfold Rep;exact h.1
 | .bl b,_,_,h,_=>by unfold Own at h;unfold Rep;exact h.1
 | .int i,_,_,h,_=>by unfold Own at h;unfold Rep;exact h.1
 | .str x,_,_,h,_=>by unfold Own at h;unfold Rep;exact h.1
 | .lst ds,_,_,h,k=>by
  unfold Own at h;unfold Rep
  obtain ⟨a,vs,M,e,h1,h2,n,rfl⟩:=h
  exact ⟨a,vs,e,by rw [k a List.mem_cons_self];exact h1,aI.rep ds h2 fun b hb=>k b (List.mem_cons_of_mem _ hb)⟩
 | .tup ds,_,_,h,k=>by
  unfold Own at h;unfold Rep
  obtain ⟨a,vs,M,e,h1,h2,n,rfl⟩:=h
  exact ⟨a,vs,e,by rw [k a List.mem_cons_self];exact h1,aI.rep ds h2 fun b hb=>k b (List.mem_cons_of_mem _ hb)⟩
 | .obj C fs,_,_,h,k=>by
  unfold Own at h;unfold Rep
  obtain ⟨a,dx,vs,M,e,h1,h3,h2,n,n2,rfl⟩:=h
  exact ⟨a,dx,vs,e,by rw [k a List.mem_cons_self];exact h1,aR.rep fs h2 fun b hb=>k b (List.mem_cons_of_mem _ (List.mem_cons_of_mem _ hb))⟩
theorem aI.rep:∀ (ds:List D) {vs:List V} {L:List Addr},aI H ds vs L→(∀ a∈L,H' a=H a)→av H' ds vs
 | [],_,_,h,_=>by unfold aI at h;unfold av;exact h.1
 | d::ds,_,_,h,k=>by
  unfold aI at h;unfold av
  obtain ⟨v,r,M,N,e,h1,h2,n,rfl⟩:=h
  exact ⟨v,r,e,Own.rep d h1 fun b hb=>k b (List.mem_append_left _ hb),aI.rep ds h2 fun b hb=>k b (List.mem_append_right _ hb)⟩
theorem aR.rep:∀ (fs:List (Str×D)) {vs:List (Str×V)} {L:List Addr},aR H fs vs L→(∀ a∈L,H' a=H a)→cF H' fs vs
  | [],_,_,h,_=>by unfold aR at h;unfold cF;exact h.1
  | (f,d)::fs,_,_,h,k=>by
    unfold aR at h;unfold cF
    obtain ⟨v,r,M,N,e,h1,h2,n,rfl⟩:=h
    exact ⟨v,r,e,Own.rep d h1 fun b hb=>k b (List.mem_append_left _ hb),aR.rep fs h2 fun b hb=>k b (List.mem_append_right _ hb)⟩
end
mutual
theorem Own.cell:∀ (d:D) {v:V} {L:List Addr},Own H d v L→∀ a∈L,∃ o,H a=some o
 | .non,_,_,h=>by unfold Own at h;rw [h.2];intro a ha;cases ha
 | .bl b,_,_,h=>by unfold Own at h;rw [h.2];intro a ha;cases ha
 | .int i,_,_,h=>by unfold Own at h;rw [h.2];intro a ha;cases ha
 | .str x,_,_,h=>by unfold Own at h;rw [h.2];intro a ha;cases ha
 | .lst ds,_,_,h=>by
  unfold Own at h
  obtain ⟨a,vs,M,e,h1,h2,n,rfl⟩:=h
  intro b hb
  rcases List.mem_cons.mp hb with rfl | hb
  ·
   exact ⟨_,h1⟩
  ·
   exact aI.cell ds h2 b hb
 | .tup ds,_,_,h=>by
  unfold Own at h
  obtain ⟨a,vs,M,e,h1,h2,n,rfl⟩:=h
  intro b hb
  rcases List.mem_cons.mp hb with rfl | hb
  ·
   exact ⟨_,h1⟩
  ·
   exact aI.cell ds h2 b hb
 | .obj C fs,_,_,h=>by
  unfold Own at h
  obtain ⟨a,dx,vs,M,e,h1,h3,h2,n,n2,rfl⟩:=h
  intro b hb
  rcases List.mem_cons.mp hb with rfl | hb
  ·
   exact ⟨_,h1⟩
  ·
   rcases List.mem_cons.mp hb with rfl | hb
   ·
    exact ⟨_,h3⟩
   ·
    exact aR.cell fs h2 b hb
theorem aI.cell:∀ (ds:List D) {vs:List V} {L:List Addr},aI H ds vs L→∀ a∈L,∃ o,H a=some o
 | [],_,_,h=>by unfold aI at h;rw [h.2];intro a ha;cases ha
 | d::ds,_,_,h=>by
  unfold aI at h
  obtain ⟨v,r,M,N,e,h1,h2,n,rfl⟩:=h
  intro b hb
  rcases List.mem_append.mp hb with hb | hb
  ·
   exact Own.cell d h1 b hb
  ·
   exact aI.cell ds h2 b hb
theorem aR.cell:∀ (fs:List (Str×D)) {vs:List (Str×V)} {L:List Addr},aR H fs vs L→∀ a∈L,∃ o,H a=some o
  | [],_,_,h=>by unfold aR at h;rw [h.2];intro a ha;cases ha
  | (f,d)::fs,_,_,h=>by
    unfold aR at h
    obtain ⟨v,r,M,N,e,h1,h2,n,rfl⟩:=h
    intro b hb
    rcases List.mem_append.mp hb with hb | hb
    · exact Own.cell d h1 b hb
    · exact aR.cell fs h2 b hb
end
mutual
theorem Own.uniq:∀ (d:D) {v:V} {L L':List Addr},Own H d v L→Own H d v L'→L=L'
 | .non,_,_,_,h,h'=>by unfold Own at h h';rw [h.2,h'.2]
 | .bl b,_,_,_,h,h'=>by unfold Own at h h';rw [h.2,h'.2]
 | .int i,_,_,_,h,h'=>by unfold Own at h h';rw [h.2,h'.2]
 | .str x,_,_,_,h,h'=>by unfold Own at h h';rw [h.2,h'.2]
 | .lst ds,_,_,_,h,h'=>by
  unfold Own at h h'
  obtain ⟨a,vs,M,e,h1,h2,n,rfl⟩:=h
  obtain ⟨a',vs',M',e',h1',h2',n',rfl⟩:=h'
  rw [e] at e';cases e'
  rw [h1] at h1';cases h1'
  rw [aI.uniq ds h2 h2']
 | .tup ds,_,_,_,h,h'=>by
  unfold Own at h h'
  obtain ⟨a,vs,M,e,h1,h2,n,rfl⟩:=h
  obtain ⟨a',vs',M',e',h1',h2',n',rfl⟩:=h'
  rw [e] at e';cases e'
  rw [h1] at h1';cases h1'
  rw [aI.uniq ds h2 h2']
 | .obj C fs,_,_,_,h,h'=>by
  unfold Own at h h'
  obtain ⟨a,dx,vs,M,e,h1,h3,h2,n,n2,rfl⟩:=h
  obtain ⟨a',dx',vs',M',e',h1',h3',h2',n',n2',rfl⟩:=h'
  rw [e] at e';cases e'
  rw [h1] at h1';cases h1'
  rw [aR.uniq fs h2 h2']
theorem aI.uniq:∀ (ds:List D) {vs:List V} {L L':List Addr},aI H ds vs L→aI H ds vs L'→L=L'
 | [],_,_,_,h,h'=>by unfold aI at h h';rw [h.2,h'.2]
 | d::ds,_,_,_,h,h'=>by
  unfold aI at h h'
  obtain ⟨v,r,M,N,e,h1,h2,n,rfl⟩:=h
  obtain ⟨v',r',M',N',e',h1',h2',n',rfl⟩:=h'
  rw [e] at e';cases e'
  rw [Own.uniq d h1 h1',aI.uniq ds h2 h2']
theorem aR.uniq:∀ (fs:List (Str×D)) {vs:List (Str×V)} {L L':List Addr},aR H fs vs L→aR H fs vs L'→L=L'
  | [],_,_,_,h,h'=>by unfold aR at h h';rw [h.2,h'.2]
  | (f,d)::fs,_,_,_,h,h'=>by
    unfold aR at h h'
    obtain ⟨v,r,M,N,e,h1,h2,n,rfl⟩:=h
    obtain ⟨v',r',M',N',e',h1',h2',n',rfl⟩:=h'
    rw [e] at e';cases e'
    rw [Own.uniq d h1 h1',aR.uniq fs h2 h2']
end
theorem Own.mono (k:aB H H') {d:D} {v:V} {L:List Addr} (h:Own H d v L):Own H' d v L:=h.agree d fun a ha=>by
 obtain ⟨o,ho⟩:=Own.cell d h a ha
 rw [ho,k _ _ ho]
theorem aI.mono (k:aB H H') {d:List D} {v:List V} {L:List Addr} (h:aI H d v L):aI H' d v L:=h.agree d fun a ha=>by
 obtain ⟨o,ho⟩:=aI.cell d h a ha
 rw [ho,k _ _ ho]
theorem aR.mono (k:aB H H') {d:List (Str×D)} {v:List (Str×V)} {L:List Addr} (h:aR H d v L):aR H' d v L:=h.agree d fun a ha=>by
 obtain ⟨o,ho⟩:=aR.cell d h a ha
 rw [ho,k _ _ ho]
end
inductive R where
 | sh (d:D)
 | fr (ds:List D)
 | bw (ds:List D)
def R.view:R→D
 | .sh d=>d
 | .fr ds=>.lst ds
 | .bw ds=>.lst ds
inductive E where
 | sh (d:D)
 | ow (ds:List D)
 | ob (a C:Addr) (fs:List (Str×D))
 | nw (d:D)
 | on (a:Addr) (d:D)
 | scr (K:Frag) (ns:List Int)
 | exc (C:Addr)
abbrev DSt:=List (Option E)
structure Wd (H Hs Hs' H':Hp):Prop where
 keep:aB H H'
 sub:aB Hs' H'
 base:aB Hs Hs'
 new:∀ a o,Hs' a=some o→Hs a=some o∨H a=none
theorem Wd.refl {H Hs:Hp} (s:aB Hs H):Wd H Hs Hs H:=⟨.refl _,s,.refl _,fun _ _ e=>.inl e⟩
theorem Wd.trans {H Hs H1s H1 H2s H2:Hp} (a:Wd H Hs H1s H1) (b:Wd H1 H1s H2s H2):Wd H Hs H2s H2:=
 ⟨a.keep.trans b.keep,b.sub,a.base.trans b.base,fun c o e=>by
  rcases b.new c o e with q | q
  ·
   exact a.new c o q
  ·
   exact .inr (a.keep.free q)⟩
theorem Wd.stay {H Hs Hs' H':Hp} (w:Wd H Hs Hs' H') {a:Addr} {o:HO} (h:H a=some o) (n:Hs a=none):Hs' a=none:=by
 cases e:Hs' a with
 | none=>rfl
 | some u=>
  rcases w.new a u e with q | q
  ·
   rw [n] at q;cases q
  ·
   rw [h] at q;cases q
theorem Wd.lay {H Hs:Hp} (s:aB Hs H) {p:Addr} {o:HO} (n:H p=none):Wd H Hs (upd Hs p o) (upd H p o):=
 ⟨.new n,s.updS,.new (s.free n),fun a u e=>by
  by_cases ha:a=p
  ·
   subst ha;exact .inr n
  ·
   rw [ak ha] at e;exact .inl e⟩
theorem Wd.fresh {H Hs:Hp} (s:aB Hs H) {p:Addr} {o:HO} (n:H p=none):Wd H Hs Hs (upd H p o):=
 ⟨.new n,s.trans (.new n),.refl _,fun _ _ e=>.inl e⟩
def cB (H0 Hs H:Hp):R→V→Prop
 | .sh d,v=>Rep Hs d v
 | .fr ds,v=>∃ a vs,v=.ref a∧H0 a=none∧Hs a=none∧H a=some (.lst vs)∧av Hs ds vs
 | .bw ds,v=>∃ a vs,v=.ref a∧H a=some (.lst vs)∧av Hs ds vs
def View (Hs H:Hp) (d:D) (v:V):Prop:=Rep Hs d v∨∃ ds a vs,d=.lst ds∧v=.ref a∧H a=some (.lst vs)∧av Hs ds vs
theorem eO {K:Frag} {H H':Hp} {a:Addr} {xs:List V} (s:aB H H') (h:SqL K H a xs):SqL K H' a xs:=by
 rcases h with (h | ⟨o,h⟩) | h
 ·
  exact .inl (.inl (s _ _ h))
 ·
  exact .inl (.inr ⟨o,s _ _ h⟩)
 ·
  exact .inr h
def dD (Hs H:Hp):E→V→Prop
 | .sh d,v=>Rep Hs d v
 | .ow ds,v=>∃ a vs,v=.ref a∧Hs a=none∧H a=some (.lst vs)∧av Hs ds vs
 | .ob a C fs,v=>v=.ref a∧∃ dx fvs,Hs a=none∧Hs dx=none∧H a=some (.ins C dx fvs)∧H dx=some (.own a)∧cF Hs fs fvs
 | .nw d,v=>∃ L,Own H d v L∧∀ a∈L,Hs a=none
 | .on b d,v=>v=.ref b∧∃ L,Own H d v L∧∀ a∈L,Hs a=none
 | .scr K ns,v=>∃ a,v=.ref a∧SqL K Hs a (ns.map V.int)
 | .exc C,v=>∃ a,v=.ref a∧∃ o,Hs a=some (.frz o (.own 0))∧o.cls=.ref C
def cG (Hs H:Hp) (δ:DSt) (σ:St):Prop:=∀ (i:Nat) (e:E),δ[i]?=some (some e)→∃ v,σ[i]?=some (some v)∧dD Hs H e v
section
variable {H0 H Hs Hs' H':Hp}
theorem cB.mono (w:Wd H Hs Hs' H') {r:R} {v:V} (h:cB H0 Hs H r v):cB H0 Hs' H' r v:=by
 cases r with
 | sh d=>exact Rep.mono w.base d h
 | fr ds=>
  obtain ⟨a,vs,e,n,m,h1,h2⟩:=h
  exact ⟨a,vs,e,n,w.stay h1 m,w.keep _ _ h1,av.mono w.base ds h2⟩
 | bw ds=>
  obtain ⟨a,vs,e,h1,h2⟩:=h
  exact ⟨a,vs,e,w.keep _ _ h1,av.mono w.base ds h2⟩
theorem cB.older {H1:Hp} (k:aB H0 H1) {r:R} {v:V} (h:cB H1 Hs H r v):cB H0 Hs H r v:=by
 cases r with
 | sh d=>exact h
 | fr ds=>
  obtain ⟨a,vs,e,n,m,h1,h2⟩:=h
  exact ⟨a,vs,e,k.free n,m,h1,h2⟩
 | bw ds=>exact h
theorem cB.view {r:R} {v:V} (h:cB H0 Hs H r v):View Hs H r.view v:=by
 cases r with
 | sh d=>exact .inl h
 | fr ds=>
  obtain ⟨a,vs,e,n,m,h1,h2⟩:=h
  exact .inr ⟨ds,a,vs,rfl,e,h1,h2⟩
 | bw ds=>
  obtain ⟨a,vs,e,h1,h2⟩:=h
  exact .inr ⟨ds,a,vs,rfl,e,h1,h2⟩
theorem View.lst (s:aB Hs H) {ds:List D} {v:V} (h:View Hs H (.lst ds) v):∃ a vs,v=.ref a∧H a=some (.lst vs)∧av Hs ds vs:=by
 rcases h with h | ⟨ds',a,vs,e,e2,h1,h2⟩
 ·
  unfold Rep at h
  obtain ⟨a,vs,e,h1,h2⟩:=h
  exact ⟨a,vs,e,s _ _ h1,h2⟩
 ·
  cases e
  exact ⟨a,vs,e2,h1,h2⟩
theorem View.tup (s:aB Hs H) {ds:List D} {v:V} (h:View Hs H (.tup ds) v):∃ a vs,v=.ref a∧H a=some (.tup vs)∧av Hs ds vs:=by
 rcases h with h | ⟨ds',a,vs,e,e2,h1,h2⟩
 ·
  unfold Rep at h
  obtain ⟨a,vs,e,h1,h2⟩:=h
  exact ⟨a,vs,e,s _ _ h1,h2⟩
 ·
  cases e
theorem View.obj (s:aB Hs H) {C:Addr} {fs:List (Str×D)} {v:V} (h:View Hs H (.obj C fs) v):∃ a dx fvs,v=.ref a∧H a=some (.ins C dx fvs)∧cF Hs fs fvs:=by
 rcases h with h | ⟨ds',a,vs,e,e2,h1,h2⟩
 ·
  unfold Rep at h
  obtain ⟨a,dx,vs,e,h1,h2⟩:=h
  exact ⟨a,dx,vs,e,s _ _ h1,h2⟩
 ·
  cases e
theorem View.int {i:Int} {v:V} (h:View Hs H (.int i) v):v=.int i:=by
 rcases h with h | ⟨_,_,_,e,_⟩
 ·
  unfold Rep at h;exact h
 ·
  cases e
theorem View.bl {b:Bool} {v:V} (h:View Hs H (.bl b) v):v=.bl b:=by
 rcases h with h | ⟨_,_,_,e,_⟩
 ·
  unfold Rep at h;exact h
 ·
  cases e
theorem View.str {x:Str} {v:V} (h:View Hs H (.str x) v):v=.str x:=by
 rcases h with h | ⟨_,_,_,e,_⟩
 ·
  unfold Rep at h;exact h
 ·
  cases e
theorem View.non {v:V} (h:View Hs H .non v):v=.non:=by
 rcases h with h | ⟨_,_,_,e,_⟩
 ·
  unfold Rep at h;exact h
 ·
  cases e
theorem dD.mono (w:Wd H Hs Hs' H') {e:E} {v:V} (h:dD Hs H e v):dD Hs' H' e v:=by
 cases e with
 | sh d=>exact Rep.mono w.base d h
 | ow ds=>
  obtain ⟨a,vs,e,m,h1,h2⟩:=h
  exact ⟨a,vs,e,w.stay h1 m,w.keep _ _ h1,av.mono w.base ds h2⟩
 | ob a C fs=>
  obtain ⟨e,dx,fvs,m,m2,h1,h3,h2⟩:=h
  exact ⟨e,dx,fvs,w.stay h1 m,w.stay h3 m2,w.keep _ _ h1,w.keep _ _ h3,cF.mono w.base fs h2⟩
 | nw d=>
  obtain ⟨L,h1,h2⟩:=h
  exact ⟨L,h1.mono w.keep,fun a ha=>by
   obtain ⟨o,ho⟩:=Own.cell d h1 a ha
   exact w.stay ho (h2 a ha)⟩
 | on b d=>
  obtain ⟨e,L,h1,h2⟩:=h
  exact ⟨e,L,h1.mono w.keep,fun a ha=>by
   obtain ⟨o,ho⟩:=Own.cell d h1 a ha
   exact w.stay ho (h2 a ha)⟩
 | scr K ns=>
  obtain ⟨a,e,h1⟩:=h
  exact ⟨a,e,eO w.base h1⟩
 | exc C=>
  obtain ⟨a,e,o,h1,h2⟩:=h
  exact ⟨a,e,o,w.base _ _ h1,h2⟩
theorem cG.mono (w:Wd H Hs Hs' H') {δ:DSt} {σ:St} (h:cG Hs H δ σ):cG Hs' H' δ σ:=fun i e q=>by
 obtain ⟨v,h1,h2⟩:=h i e q
 exact ⟨v,h1,h2.mono w⟩
theorem cB.freeze (s:aB Hs H) {r:R} {v:V} (hb:∀ ds,r≠.bw ds) (h:cB H0 Hs H r v):∃ Hs1,Rep Hs1 r.view v∧aB Hs1 H∧aB Hs Hs1∧∀ a o,Hs1 a=some o→Hs a=some o∨H0 a=none:=by
 cases r with
 | sh d=>exact ⟨Hs,h,s,.refl _,fun _ _ e=>.inl e⟩
 | fr ds=>
  obtain ⟨a,vs,e,n,m,h1,h2⟩:=h
  refine ⟨L2.upd Hs a (.lst vs),?_,fun b o q=>?_,.new m,fun b o q=>?_⟩
  ·
   show Rep _ (.lst ds) v
   unfold Rep
   exact ⟨a,vs,e,aj,av.mono (.new m) ds h2⟩
  ·
   by_cases hb:b=a
   ·
    subst hb;rw [aj] at q;cases q;exact h1
   ·
    rw [ak hb] at q;exact s _ _ q
  ·
   by_cases hb:b=a
   ·
    subst hb;exact .inr n
   ·
    rw [ak hb] at q;exact .inl q
 | bw ds=>exact absurd rfl (hb ds)
theorem cB.share {H0:Hp} (w:Wd H0 Hs Hs' H') {r:R} {v:V} (hb:∀ ds,r≠.bw ds) (h:cB H0 Hs' H' r v):∃ Hs1,Rep Hs1 r.view v∧Wd H0 Hs Hs1 H':=by
 obtain ⟨Hs1,h1,h2,h3,h4⟩:=h.freeze w.sub hb
 exact ⟨Hs1,h1,w.keep,h2,w.base.trans h3,fun a o e=>by
  rcases h4 a o e with q | q
  ·
   exact w.new a o q
  ·
   exact .inr q⟩
end
abbrev FE:=DSt→Option R
def tD (f:FE):TE:=fun σ H Q=>∃ Hs δ r,aB Hs H∧cG Hs H δ σ∧f δ=some r∧∀ v Hs' H',Wd H Hs Hs' H'→cB H Hs' H' r v→Q v H'
structure DE (X:Cx) (e:Expr) (f:FE):Prop where
 go:PE X e (tD f)
def tDT (f:DSt→Option Bool):TT:=fun σ H Q=>∃ Hs δ b,aB Hs H∧cG Hs H δ σ∧f δ=some b∧∀ Hs' H',Wd H Hs Hs' H'→Q b H'
structure DT (X:Cx) (e:Expr) (f:DSt→Option Bool):Prop where
 go:PT X e (tDT f)
structure DW (X:Cx) (e:Expr) (f:DSt→Option Bool):Prop where
 go:PW X e (tDT f)
def b9 (H0 Hs H:Hp):List R→List V→Prop
 | [],vs=>vs=[]
 | r::rs,vs=>∃ v t,vs=v::t∧cB H0 Hs H r v∧b9 H0 Hs H rs t
def tDA (f:DSt→Option (List R)):TA:=fun σ H Q=>∃ Hs δ rs,aB Hs H∧cG Hs H δ σ∧f δ=some rs∧∀ vs Hs' H',Wd H Hs Hs' H'→b9 H Hs' H' rs vs→Q vs H'
structure DA (X:Cx) (es:List Expr) (f:DSt→Option (List R)):Prop where
 go:PA X es (tDA f)
def ad (i:Nat):FE:=fun δ=>match δ[i]? with
 | some (some (.sh d))=>some (.sh d)
 | some (some (.ow ds))=>some (.bw ds)
 | _=>none
def ac (d:D):FE:=fun _=>some (.sh d)
def af (o:D→D→Option R) (fa fb:FE):FE:=fun δ=>(fa δ).bind fun a=>(fb δ).bind fun b=>o a.view b.view
def dun (o:D→Option R) (fa:FE):FE:=fun δ=>(fa δ).bind fun a=>o a.view
section
variable {X:Cx} {a b c e:Expr} {fa fb fc f:FE} {pos:Pos}
theorem de_var {i:Nat} {x:Str} (h:PE X (.Name x pos) (tVar i)):DE X (.Name x pos) (ad i):=.mk <| h.weak fun σ H Q ⟨Hs,δ,r,S,En,e,K⟩=>by
 unfold ad at e
 cases q:δ[i]? with
 | none=>rw [q] at e;cases e
 | some o=>
  cases o with
  | none=>rw [q] at e;cases e
  | some en=>
   rw [q] at e
   obtain ⟨v,hv,hr⟩:=En i en q
   refine ⟨v,hv,K v Hs H (.refl S) ?_⟩
   cases en with
   | sh d=>cases e;exact hr
   | ow ds=>
    cases e
    obtain ⟨a,vs,e1,_,h1,h2⟩:=hr
    exact ⟨a,vs,e1,h1,h2⟩
   | ob a C fs=>cases e
   | nw d=>cases e
   | on b d=>cases e
   | scr K ns=>cases e
   | exc C=>cases e
theorem iz {d:D} {v:V} (h:PE X e (tC v)) (r:∀ H,Rep H d v):DE X e (ac d):=.mk <| h.weak fun σ H Q ⟨Hs,δ,r',S,En,e,K⟩=>by
 cases e
 exact K v Hs H (.refl S) (r Hs)
def rD (o:D→D→Option R):R2:=fun x y H Q=>∃ Hs d1 d2 r,aB Hs H∧View Hs H d1 x∧View Hs H d2 y∧o d1 d2=some r∧∀ v Hs' H',Wd H Hs Hs' H'→cB H Hs' H' r v→Q v H'
def rD1 (o:D→Option R):V→Hp→VK→Prop:=fun x H Q=>∃ Hs d r,aB Hs H∧View Hs H d x∧o d=some r∧∀ v Hs' H',Wd H Hs Hs' H'→cB H Hs' H' r v→Q v H'
theorem iA {o:D→D→Option R} {σ:St} {H:Hp} {Q:VK} (h:tD (af o fa fb) σ H Q):tOp (rD o) (tD fa) (tD fb) σ H Q:=by
 obtain ⟨Hs,δ,r,S,En,e,K⟩:=h
 unfold af at e
 cases ea:fa δ with
 | none=>rw [ea] at e;cases e
 | some ra=>
  cases eb:fb δ with
  | none=>rw [ea,eb] at e;cases e
  | some rb=>
   rw [ea,eb] at e
   refine ⟨Hs,δ,ra,S,En,ea,fun x Hs1 H1 W1 R1=>⟨Hs1,δ,rb,W1.sub,En.mono W1,eb,fun y Hs2 H2 W2 R2=>?_⟩⟩
   refine ⟨Hs2,ra.view,rb.view,r,W2.sub,(R1.mono W2).view,R2.view,e,fun v Hs3 H3 W3 R3=>?_⟩
   exact K v Hs3 H3 (W1.trans (W2.trans W3)) (R3.older (W1.keep.trans W2.keep))
theorem aG {op:Operator} {o:D→D→Option R} (ho:OpR X (binaryOp op) (rD o)) (ha:DE X a fa) (hb:DE X b fb):DE X (.BinOp a op b pos) (af o fa fb):=.mk <| (pe_op ho ha.go hb.go).weak fun _ _ _=>iA
theorem de_cmp {op:CmpOp} {o:D→D→Option R} (ho:OpR X (compareOp op) (rD o)) (ha:DE X a fa) (hb:DE X b fb) (hm:behindInMarks op b=false):DE X (.Compare a [op] [b] pos) (af o fa fb):=.mk <| (pe_cmpR ho ha.go hb.go hm).weak fun _ _ _=>iA
theorem de_ix {o:D→D→Option R} (ho:IxR X (rD o)) (ha:DE X a fa) (hb:DE X b fb) (hs:ib b):DE X (.Subscript a b pos) (af o fa fb):=.mk <| (pe_ix ho ha.go hb.go hs).weak fun _ _ _=>iA
def R.bool:R→Option Bool
 | .sh (.bl b)=>some b
 | _=>none
def ap (f:FE):DSt→Option Bool:=fun δ=>(f δ).bind R.bool
theorem ie {σ:St} {H:Hp} {Q:Bool→Hp→Prop} (h:tDT (ap f) σ H Q):tTest (tD f) σ H Q:=by
 obtain ⟨Hs,δ,b,S,En,e,K⟩:=h
 unfold ap at e
 cases ea:f δ with
 | none=>rw [ea] at e;cases e
 | some ra=>
  rw [ea] at e
  refine ⟨Hs,δ,ra,S,En,ea,fun x Hs1 H1 W1 R1=>?_⟩
  cases ra with
  | sh d=>
   cases d with
   | bl c=>
    cases e
    have R1:Rep Hs1 (.bl b) x:=R1
    unfold Rep at R1
    exact ⟨b,R1,K Hs1 H1 W1⟩
   | _=>cases e
  | _=>cases e
theorem jI {op:CmpOp} {o:D→D→Option R} (ho:OpR X (compareOp op) (rD o)) (ha:DE X a fa) (hb:DE X b fb) (hm:behindInMarks op b=false):DT X (.Compare a [op] [b] pos) (ap (af o fa fb)):=.mk <|
 (pt_cmpR ho ha.go hb.go hm).weak fun σ H Q h=>by
  obtain ⟨Hs,δ,r,S,En,e,K⟩:=ie h
  exact iA ⟨Hs,δ,r,S,En,e,K⟩
theorem bX (h:DE X e f) (he:∀ whole,isTrue e X.env whole=(do let v ←whole;standAt e.pos;holding [v] (truthy v)):=by intro _;rfl):DT X e (ap f):=.mk <| (pt_val h.go he).weak fun _ _ _=>ie
def cH (o o':D→D→Option R) (fa fb fc:FE):FE:=fun δ=>(fa δ).bind fun a=>(fb δ).bind fun b=>(o a.view b.view).bind fun r=>match r with
 | .sh (.bl true)=>(fc δ).bind fun c=>o' b.view c.view
 | .sh (.bl false)=>some (.sh (.bl false))
 | _=>none
theorem tD_chain {o o':D→D→Option R} {σ:St} {H:Hp} {Q:VK} (h:tD (cH o o' fa fb fc) σ H Q):tChain (rD o) (rD o') (tD fa) (tD fb) (tD fc) σ H Q:=by
 obtain ⟨Hs,δ,r,S,En,e,K⟩:=h
 unfold cH at e
 cases ea:fa δ with
 | none=>rw [ea] at e;cases e
 | some ra=>
  cases eb:fb δ with
  | none=>rw [ea,eb] at e;cases e
  | some rb=>
   rw [ea,eb] at e
   replace e:((o ra.view rb.view).bind fun r=>match r with
    | .sh (.bl true)=>(fc δ).bind fun c=>o' rb.view c.view
    | .sh (.bl false)=>some (R.sh (.bl false))
    | _=>none)=some r:=e
   cases eo:o ra.view rb.view with
   | none=>rw [eo] at e;cases e
   | some ro=>
    rw [eo] at e
    refine ⟨Hs,δ,ra,S,En,ea,fun x Hs1 H1 W1 R1=>⟨Hs1,δ,rb,W1.sub,En.mono W1,eb,fun y Hs2 H2 W2 R2=>?_⟩⟩
    refine ⟨Hs2,ra.view,rb.view,ro,W2.sub,(R1.mono W2).view,R2.view,eo,fun v Hs3 H3 W3 R3=>?_⟩
    cases ro with
    | sh d=>
     cases d with
     | bl k=>
      have R3:Rep Hs3 (.bl k) v:=R3
      unfold Rep at R3
      refine ⟨k,R3,?_⟩
      cases k with
      | true=>
       replace e:((fc δ).bind fun c=>o' rb.view c.view)=some r:=e
       cases ec:fc δ with
       | none=>rw [ec] at e;cases e
       | some rc=>
        rw [ec] at e
        rw [if_pos rfl]
        have W12:=W1.trans (W2.trans W3)
        refine ⟨Hs3,δ,rc,W3.sub,En.mono W12,ec,fun z Hs4 H4 W4 R4=>?_⟩
        refine ⟨Hs4,rb.view,rc.view,r,W4.sub,((R2.mono W3).mono W4).view,R4.view,e,fun v Hs5 H5 W5 R5=>?_⟩
        exact K v Hs5 H5 (W12.trans (W4.trans W5)) (R5.older (W12.keep.trans W4.keep))
      | false=>
       cases e
       rw [if_neg Bool.false_ne_true]
       exact K _ Hs3 H3 (W1.trans (W2.trans W3)) (by show Rep Hs3 (.bl false) _;unfold Rep;rfl)
     | _=>cases e
    | _=>cases e
theorem gf {op op':CmpOp} {o o':D→D→Option R} (ho:OpR X (compareOp op) (rD o)) (ho':OpR X (compareOp op') (rD o')) (ha:DE X a fa) (hb:DE X b fb) (hc:DE X c fc)
  (hm:lastMarks [op,op'] [b,c]=false:=by with_unfolding_all rfl):DT X (.Compare a [op,op'] [b,c] pos) (ap (cH o o' fa fb fc)):=.mk <|
 (pt_chain ho ho' ha.go hb.go hc.go hm).weak fun σ H Q h=>by
  obtain ⟨Hs,δ,r,S,En,e,K⟩:=ie h
  exact tD_chain ⟨Hs,δ,r,S,En,e,K⟩
def gg (f g:DSt→Option Bool):DSt→Option Bool:=fun δ=>(f δ).bind fun c=>if c=true then g δ else some false
def cI (f g:DSt→Option Bool):DSt→Option Bool:=fun δ=>(f δ).bind fun c=>if c=true then some true else g δ
def be (f:DSt→Option Bool):DSt→Option Bool:=fun δ=>(f δ).map (!·)
variable {tf tg:DSt→Option Bool} {rest:List Expr}
theorem dw_and1 (ha:DT X a tf):DW X (.BoolOp .And [a] pos) tf:=.mk <| pw_and1 ha.go
theorem dw_or1 (ha:DT X a tf):DW X (.BoolOp .Or [a] pos) tf:=.mk <| pw_or1 ha.go
theorem dw_and (ha:DT X a tf) (hb:DW X (.BoolOp .And (b::rest) pos) tg):DW X (.BoolOp .And (a::b::rest) pos) (gg tf tg):=.mk <| (pw_and ha.go hb.go).weak fun σ H Q h=>by
 obtain ⟨Hs,δ,r,S,En,e,K⟩:=h
 unfold gg at e
 cases ea:tf δ with
 | none=>rw [ea] at e;cases e
 | some k=>
  rw [ea] at e
  refine ⟨Hs,δ,k,S,En,ea,fun Hs1 H1 W1=>?_⟩
  cases k with
  | true=>
   rw [if_pos rfl]
   exact ⟨Hs1,δ,r,W1.sub,En.mono W1,e,fun Hs2 H2 W2=>K Hs2 H2 (W1.trans W2)⟩
  | false=>cases e;rw [if_neg Bool.false_ne_true];exact K Hs1 H1 W1
theorem dw_or (ha:DT X a tf) (hb:DW X (.BoolOp .Or (b::rest) pos) tg):DW X (.BoolOp .Or (a::b::rest) pos) (cI tf tg):=.mk <| (pw_or ha.go hb.go).weak fun σ H Q h=>by
 obtain ⟨Hs,δ,r,S,En,e,K⟩:=h
 unfold cI at e
 cases ea:tf δ with
 | none=>rw [ea] at e;cases e
 | some k=>
  rw [ea] at e
  refine ⟨Hs,δ,k,S,En,ea,fun Hs1 H1 W1=>?_⟩
  cases k with
  | true=>cases e;rw [if_pos rfl];exact K Hs1 H1 W1
  | false=>
   rw [if_neg Bool.false_ne_true]
   exact ⟨Hs1,δ,r,W1.sub,En.mono W1,e,fun Hs2 H2 W2=>K Hs2 H2 (W1.trans W2)⟩
theorem DW.dt (h:DW X e tf):DT X e tf:=.mk <| PW.pt h.go
theorem bx (ha:DT X a tf):DT X (.UnaryOp .Not a pos) (be tf):=.mk <| (pt_not ha.go).weak fun σ H Q h=>by
 obtain ⟨Hs,δ,r,S,En,e,K⟩:=h
 unfold be at e
 cases ea:tf δ with
 | none=>rw [ea] at e;cases e
 | some k=>
  rw [ea] at e
  cases e
  exact ⟨Hs,δ,k,S,En,ea,fun Hs1 H1 W1=>K Hs1 H1 W1⟩
def dand (fa fb:FE):FE:=fun δ=>(fa δ).bind fun r=>match r with
 | .sh (.bl true)=>fb δ
 | .sh (.bl false)=>some (.sh (.bl false))
 | _=>none
def dor (fa fb:FE):FE:=fun δ=>(fa δ).bind fun r=>match r with
 | .sh (.bl true)=>some (.sh (.bl true))
 | .sh (.bl false)=>fb δ
 | _=>none
def dnot (fa:FE):FE:=fun δ=>(fa δ).bind fun r=>match r with
 | .sh (.bl b)=>some (.sh (.bl (!b)))
 | _=>none
theorem shB (H0 Hs H:Hp) (b:Bool):cB H0 Hs H (.sh (.bl b)) (.bl b):=by show Rep Hs (.bl b) (.bl b);unfold Rep;rfl
theorem shI (H0 Hs H:Hp) (i:Int):cB H0 Hs H (.sh (.int i)) (.int i):=by show Rep Hs (.int i) (.int i);unfold Rep;rfl
theorem shS (H0 Hs H:Hp) (x:Str):cB H0 Hs H (.sh (.str x)) (.str x):=by show Rep Hs (.str x) (.str x);unfold Rep;rfl
theorem unB {H0 Hs H:Hp} {b:Bool} {v:V} (h:cB H0 Hs H (.sh (.bl b)) v):v=.bl b:=by have h:Rep Hs (.bl b) v:=h;unfold Rep at h;exact h
theorem jJ {op} (h:DE X a fa):DE X (.BoolOp op [a] pos) fa:=.mk <| pe_one h.go
theorem gG (ha:DE X a fa) (hb:DE X (.BoolOp .And (b::rest) pos) fb):DE X (.BoolOp .And (a::b::rest) pos) (dand fa fb):=.mk <| (pe_and ha.go hb.go).weak fun σ H Q h=>by
 obtain ⟨Hs,δ,r,S,En,e,K⟩:=h
 unfold dand at e
 cases ea:fa δ with
 | none=>rw [ea] at e;cases e
 | some k=>
  rw [ea] at e
  refine ⟨Hs,δ,k,S,En,ea,fun x Hs1 H1 W1 R1=>?_⟩
  match k,e,R1 with
  | .sh (.bl true),e,R1=>
   refine ⟨true,unB R1,?_⟩
   rw [if_pos rfl]
   exact ⟨Hs1,δ,r,W1.sub,En.mono W1,e,fun v Hs2 H2 W2 R2=>K v Hs2 H2 (W1.trans W2) (R2.older W1.keep)⟩
  | .sh (.bl false),e,R1=>
   cases e
   refine ⟨false,unB R1,?_⟩
   rw [if_neg Bool.false_ne_true]
   exact K _ Hs1 H1 W1 (shB _ _ _ _)
theorem de_not (ha:DE X a fa):DE X (.UnaryOp .Not a pos) (dnot fa):=.mk <| (pe_not ha.go).weak fun σ H Q h=>by
 obtain ⟨Hs,δ,r,S,En,e,K⟩:=h
 unfold dnot at e
 cases ea:fa δ with
 | none=>rw [ea] at e;cases e
 | some k=>
  rw [ea] at e
  refine ⟨Hs,δ,k,S,En,ea,fun x Hs1 H1 W1 R1=>?_⟩
  match k,e,R1 with
  | .sh (.bl k),e,R1=>
   cases e
   exact ⟨k,unB R1,K _ Hs1 H1 W1 (shB _ _ _ _)⟩
def dif (t:DSt→Option Bool) (fa fb:FE):FE:=fun δ=>(t δ).bind fun k=>if k=true then fa δ else fb δ
end
end Ew
end
section
namespace Ew
open PySem PySem.Spec L2
def big:Nat:=100000
theorem bF {n:Nat} (h:n≤big):n<sizeLine:=Nat.lt_of_le_of_lt h (by rw [PySem.sizeLine_eq];decide)
def noStar:Expr→Bool
 | .Starred _ _=>false
 | _=>true
theorem aE {e:Expr} (h:noStar e=true) {es:List Expr} {env:Env}:starEach (e::es) env=(false,eval e env)::starEach es env:=by
 cases e <;> first | rfl | cases h
def ah:DSt→Option (List R):=fun _=>some []
def aa (fa:FE) (fr:DSt→Option (List R)):DSt→Option (List R):=fun δ=>(fa δ).bind fun r=>(fr δ).bind fun rs=>some (r::rs)
theorem b9.mono {H0 H Hs Hs' H':Hp} (w:Wd H Hs Hs' H'):∀ {rs:List R} {vs:List V},b9 H0 Hs H rs vs→b9 H0 Hs' H' rs vs
 | [],_,h=>h
 | r::rs,_,⟨v,t,e,h1,h2⟩=>⟨v,t,e,h1.mono w,b9.mono w h2⟩
theorem b9.older {H0 H1 H Hs:Hp} (k:aB H0 H1):∀ {rs:List R} {vs:List V},b9 H1 Hs H rs vs→b9 H0 Hs H rs vs
 | [],_,h=>h
 | r::rs,_,⟨v,t,e,h1,h2⟩=>⟨v,t,e,h1.older k,b9.older k h2⟩
section
variable {X:Cx} {e:Expr} {es:List Expr} {fa:FE} {fr:DSt→Option (List R)} {pos:Pos}
theorem jK:DA X [] ah:=.mk <| cr.weak fun σ H Q ⟨Hs,δ,r,S,En,e,K⟩=>by
 cases e
 exact K [] Hs H (.refl S) rfl
theorem ae (ha:DE X e fa) (hr:DA X es fr) (hs:starEach (e::es) X.env=(false,eval e X.env)::starEach es X.env:=by exact aE rfl):DA X (e::es) (aa fa fr):=
 .mk <| (a5 ha.go hr.go hs).weak fun σ H Q ⟨Hs,δ,r,S,En,e,K⟩=>by
  unfold aa at e
  cases ea:fa δ with
  | none=>rw [ea] at e;cases e
  | some ra=>
   cases eb:fr δ with
   | none=>rw [ea,eb] at e;cases e
   | some rb=>
    rw [ea,eb] at e
    cases e
    refine ⟨Hs,δ,ra,S,En,ea,fun x Hs1 H1 W1 R1=>⟨Hs1,δ,rb,W1.sub,En.mono W1,eb,fun vs Hs2 H2 W2 R2=>?_⟩⟩
    exact K (x::vs) Hs2 H2 (W1.trans W2) ⟨x,vs,rfl,R1.mono W2,R2.older W1.keep⟩
end
def R.isBw:R→Bool
 | .bw _=>true
 | _=>false
theorem b9.freeze {H0 H:Hp}:∀ {rs:List R} {vs:List V} {Hs:Hp},aB Hs H→b9 H0 Hs H rs vs→∃ Hs1,av Hs1 (rs.map R.view) vs∧aB Hs1 H∧aB Hs Hs1∧
  ((∀ r∈rs,r.isBw=false)→∀ a o,Hs1 a=some o→Hs a=some o∨H0 a=none):=by
 have one:∀ {r:R} {v:V} {Hs:Hp},aB Hs H→View Hs H r.view v→(r.isBw=false→(∃ d,r=.sh d∧Rep Hs d v)∨∃ a,v=.ref a∧H0 a=none)→
   ∃ Hs1,Rep Hs1 r.view v∧aB Hs1 H∧aB Hs Hs1∧(r.isBw=false→∀ a o,Hs1 a=some o→Hs a=some o∨H0 a=none):=by
  intro r v Hs S vw new
  rcases vw with h | ⟨ds,a,vs,e1,e2,h1,h2⟩
  ·
   exact ⟨Hs,h,S,.refl _,fun _ _ _ e=>.inl e⟩
  ·
   have sub:aB Hs (L2.upd Hs a (.lst vs)):=fun b o q=>by
    by_cases hb:b=a
    ·
     subst hb;rw [S _ _ q] at h1;cases h1;exact aj
    ·
     rw [ak hb];exact q
   refine ⟨L2.upd Hs a (.lst vs),?_,fun b o q=>?_,sub,fun hb b o q=>?_⟩
   ·
    rw [e1];unfold Rep;exact ⟨a,vs,e2,aj,av.mono sub ds h2⟩
   ·
    by_cases hb:b=a
    ·
     subst hb;rw [aj] at q;cases q;exact h1
    ·
     rw [ak hb] at q;exact S _ _ q
   ·
    by_cases hba:b=a
    ·
     subst hba
     rcases new hb with ⟨d,ed,hd⟩ | ⟨a',ea,na⟩
     ·
      subst ed
      have e1:d=.lst ds:=e1
      subst e1
      unfold Rep at hd
      obtain ⟨a',vs',e3,h3,_⟩:=hd
      rw [e2] at e3;cases e3
      rw [S _ _ h3] at h1;cases h1
      rw [aj] at q;cases q
      exact .inl h3
     ·
      rw [e2] at ea;cases ea;exact .inr na
    ·
     rw [ak hba] at q;exact .inl q
 intro rs
 induction rs with
 | nil=>intro vs Hs S h;exact ⟨Hs,by rw [show vs=[] from h];exact .nil,S,.refl _,fun _ _ _ e=>.inl e⟩
 | cons r rs ih=>
  intro vs Hs S h
  obtain ⟨v,t,rfl,h1,h2⟩:=h
  obtain ⟨Hs1,q1,q2,q3,q4⟩:=ih S h2
  have vw:View Hs1 H r.view v:=by
   rcases h1.view with z | ⟨ds,a,vs,e1,e2,z1,z2⟩
   ·
    exact .inl (Rep.mono q3 _ z)
   ·
    exact .inr ⟨ds,a,vs,e1,e2,z1,av.mono q3 _ z2⟩
  obtain ⟨Hs2,p1,p2,p3,p4⟩:=one (r:=r) q2 vw fun hb=>by
   cases r with
   | sh d=>exact .inl ⟨d,rfl,Rep.mono q3 _ h1⟩
   | fr ds=>obtain ⟨a,vs,e,n,_⟩:=h1;exact .inr ⟨a,e,n⟩
   | bw ds=>cases hb
  refine ⟨Hs2,.cons p1 (av.mono p3 _ q1),p2,q3.trans p3,fun hb a o e=>?_⟩
  rcases p4 (hb r List.mem_cons_self) a o e with z | z
  ·
   exact q4 (fun r' hr'=>hb r' (List.mem_cons_of_mem _ hr')) a o z
  ·
   exact .inr z
def bD (rs:List R):Bool:=rs.all fun r=>!r.isBw
theorem cX {rs:List R} (h:bD rs=true):∀ r∈rs,r.isBw=false:=fun r hr=>by
 have:=List.all_eq_true.mp h r hr
 simpa using this
def bz (fa:DSt→Option (List R)):FE:=fun δ=>(fa δ).bind fun rs=>if bD rs=true∧rs.length≤big then some (.fr (rs.map R.view)) else none
def ck (fa:DSt→Option (List R)):FE:=fun δ=>(fa δ).bind fun rs=>if bD rs=true∧rs.length≤big then some (.sh (.tup (rs.map R.view))) else none
theorem b9.length {H0 Hs H:Hp}:∀ {rs:List R} {vs:List V},b9 H0 Hs H rs vs→vs.length=rs.length
 | [],_,h=>by rw [show _=_ from h];rfl
 | r::rs,_,⟨v,t,e,h1,h2⟩=>by rw [e];simp [b9.length h2]
section
variable {X:Cx} {e:Expr} {es:List Expr} {fa:FE} {fr:DSt→Option (List R)} {pos:Pos}
theorem bG (h:DA X es fr):DE X (.List es pos) (bz fr):=.mk <| (pe_lst h.go).weak fun σ H Q ⟨Hs,δ,r,S,En,e,K⟩=>by
 unfold bz at e
 cases ea:fr δ with
 | none=>rw [ea] at e;cases e
 | some rs=>
  rw [ea] at e
  by_cases hc:bD rs=true∧rs.length≤big
  ·
   replace e:(if bD rs=true∧rs.length≤big then some (R.fr (rs.map R.view)) else none)=some r:=e
   rw [if_pos hc] at e
   cases e
   refine ⟨Hs,δ,rs,S,En,ea,fun vs Hs1 H1 W1 R1=>⟨?_,fun p hp=>?_⟩⟩
   ·
    rw [R1.length];exact Nat.le_of_lt (bF hc.2)
   ·
    obtain ⟨Hs2,q1,q2,q3,q4⟩:=R1.freeze W1.sub
    have W2:Wd H Hs Hs2 H1:=⟨W1.keep,q2,W1.base.trans q3,fun a o e=>by
     rcases q4 (cX hc.1) a o e with z | z
     ·
      exact W1.new a o z
     ·
      exact .inr z⟩
    exact K _ Hs2 _ (W2.trans (.fresh q2 hp)) ⟨p,vs,rfl,W1.keep.free hp,q2.free hp,aj,q1⟩
  ·
   replace e:(if bD rs=true∧rs.length≤big then some (R.fr (rs.map R.view)) else none)=some r:=e
   rw [if_neg hc] at e;cases e
theorem cP {x1} (h:DA X es fr):DE X (.Tuple es x1 pos) (ck fr):=.mk <| (pe_tup h.go).weak fun σ H Q ⟨Hs,δ,r,S,En,e,K⟩=>by
 unfold ck at e
 cases ea:fr δ with
 | none=>rw [ea] at e;cases e
 | some rs=>
  rw [ea] at e
  by_cases hc:bD rs=true∧rs.length≤big
  ·
   replace e:(if bD rs=true∧rs.length≤big then some (R.sh (.tup (rs.map R.view))) else none)=some r:=e
   rw [if_pos hc] at e
   cases e
   refine ⟨Hs,δ,rs,S,En,ea,fun vs Hs1 H1 W1 R1=>⟨?_,fun p hp=>?_⟩⟩
   ·
    rw [R1.length];exact Nat.le_of_lt (bF hc.2)
   ·
    obtain ⟨Hs2,q1,q2,q3,q4⟩:=R1.freeze W1.sub
    have W2:Wd H Hs Hs2 H1:=⟨W1.keep,q2,W1.base.trans q3,fun a o e=>by
     rcases q4 (cX hc.1) a o e with z | z
     ·
      exact W1.new a o z
     ·
      exact .inr z⟩
    refine K _ (L2.upd Hs2 p (.tup vs)) _ (W2.trans (.lay q2 hp)) ?_
    show Rep _ (.tup _) _
    unfold Rep
    exact ⟨p,vs,rfl,aj,av.mono (.new (q2.free hp)) _ q1⟩
  ·
   replace e:(if bD rs=true∧rs.length≤big then some (R.sh (.tup (rs.map R.view))) else none)=some r:=e
   rw [if_neg hc] at e;cases e
end
def spD (n:Nat) (m:List D→Option D):Sp:=fun vs H Q _=>∃ Hs ds d,ds.length=n∧aB Hs H∧av Hs ds vs∧m ds=some d∧∀ v Hs' H',Wd H Hs Hs' H'→Rep Hs' d v→Q v H'
theorem spD_len {n:Nat} {m:List D→Option D} {vs:List V} {H:Hp} {Q:VK} {E:XK} (h:spD n m vs H Q E):vs.length=n:=by
 obtain ⟨Hs,ds,d,e,_,r,_⟩:=h
 rw [r.length,e]
def D.flat:D→Bool
 | .non=>true
 | .bl _=>true
 | .int _=>true
 | .str _=>true
 | _=>false
theorem Rep.flat {H H':Hp} {d:D} {v:V} (f:d.flat=true) (h:Rep H d v):Rep H' d v:=by
 cases d with
 | lst _=>cases f
 | tup _=>cases f
 | obj _ _=>cases f
 | _=>unfold Rep at h ⊢;exact h
def gi (n:Nat) (m:List D→Option D) (rs:List R):Option R:=(m (rs.map R.view)).bind fun d=>if rs.length=n∧(bD rs=true∨d.flat=true) then some (.sh d) else none
def mcallF (n:Nat) (m:List D→Option (List D)) (rs:List R):Option R:=(m (rs.map R.view)).bind fun d=>if rs.length=n∧bD rs=true then some (.fr d) else none
theorem kl {n:Nat} {m:List D→Option D} {rs:List R} {r:R} {vs:List V} {H Hs Hs1 H1:Hp} {Q:VK} {E:XK} (W1:Wd H Hs Hs1 H1) (R1:b9 H Hs1 H1 rs vs) (e:gi n m rs=some r)
  (K:∀ v Hs' H',Wd H Hs Hs' H'→cB H Hs' H' r v→Q v H'):spD n m vs H1 Q E:=by
 unfold gi at e
 cases em:m (rs.map R.view) with
 | none=>rw [em] at e;cases e
 | some d=>
  rw [em] at e
  replace e:(if rs.length=n∧(bD rs=true∨d.flat=true) then some (R.sh d) else none)=some r:=e
  by_cases hc:rs.length=n∧(bD rs=true∨d.flat=true)
  ·
   rw [if_pos hc] at e
   cases e
   obtain ⟨Hs2,q1,q2,q3,q4⟩:=R1.freeze W1.sub
   refine ⟨Hs2,_,d,by rw [List.length_map];exact hc.1,q2,q1,em,fun v Hs3 H3 W3 R3=>?_⟩
   rcases hc.2 with hb | hf
   ·
    have W2:Wd H Hs Hs2 H1:=⟨W1.keep,q2,W1.base.trans q3,fun a o e=>by
     rcases q4 (cX hb) a o e with z | z
     ·
      exact W1.new a o z
     ·
      exact .inr z⟩
    exact K v Hs3 H3 (W2.trans W3) R3
   ·
    exact K v Hs1 H3 ⟨W1.keep.trans W3.keep,W1.sub.trans W3.keep,W1.base,W1.new⟩ (Rep.flat hf R3)
  ·
   rw [if_neg hc] at e;cases e
def aq (n:Nat) (m:List D→Option D) (fa:DSt→Option (List R)):FE:=fun δ=>(fa δ).bind (gi n m)
def dcallF (n:Nat) (m:List D→Option (List D)) (fa:DSt→Option (List R)):FE:=fun δ=>(fa δ).bind (mcallF n m)
section
variable {X:Cx} {e o:Expr} {es:List Expr} {fa fo:FE} {fr:DSt→Option (List R)} {n:Nat} {m:List D→Option D} {mF:List D→Option (List D)} {E:XK}
theorem tD_call {σ:St} {H:Hp} {Q:VK} (h:tD (aq n m fr) σ H Q):tCall (spD n m) [] E (tDA fr) σ H Q:=by
 obtain ⟨Hs,δ,r,S,En,e,K⟩:=h
 unfold aq at e
 cases ea:fr δ with
 | none=>rw [ea] at e;cases e
 | some rs=>
  rw [ea] at e
  refine ⟨Hs,δ,rs,S,En,ea,fun vs Hs1 H1 W1 R1=>?_⟩
  show spD n m (vs++[]) H1 Q E
  rw [List.append_nil]
  exact kl W1 R1 e K
def dfld (ok:Addr→Bool) (f:Str) (fo:FE):FE:=fun δ=>(fo δ).bind fun r=>match r.view with
 | .obj C fs=>if ok C=true then (fs.lookup f).map .sh else none
 | _=>none
theorem de_fld {ok:Addr→Bool} {f:Str} {pos:Pos} (ho:DE X o fo) (hk:∀ C,ok C=true→Cls X.K C∧NoAttr X.K C f) (hb:attributeBase o f X.env (eval o X.env)=eval o X.env:=by rfl):DE X (.Attribute o f pos) (dfld ok f fo):=.mk <|
 (pe_fld ho.go hb).weak fun σ H Q ⟨Hs,δ,r,S,En,e,K⟩=>by
  unfold dfld at e
  cases ea:fo δ with
  | none=>rw [ea] at e;cases e
  | some ra=>
   rw [ea] at e
   refine ⟨Hs,δ,ra,S,En,ea,fun x Hs1 H1 W1 R1=>?_⟩
   have vw:=R1.view
   replace e:(match ra.view with
    | .obj C fs=>if ok C=true then (fs.lookup f).map R.sh else none
    | _=>none)=some r:=e
   cases hv:ra.view with
   | obj C fs=>
    rw [hv] at e vw
    replace e:(if ok C=true then (fs.lookup f).map R.sh else none)=some r:=e
    by_cases hc:ok C=true
    ·
     rw [if_pos hc] at e
     cases el:fs.lookup f with
     | none=>rw [el] at e;cases e
     | some d=>
      rw [el] at e
      cases e
      obtain ⟨a,dx,fvs,e1,h1,h2⟩:=vw.obj W1.sub
      obtain ⟨v,l1,l2⟩:=h2.lookup el
      exact ⟨a,C,dx,fvs,v,e1,h1,(hk C hc).1,(hk C hc).2,l1,K v Hs1 H1 W1 l2⟩
    ·
     rw [if_neg hc] at e;cases e
   | _=>rw [hv] at e;cases e
def ez (C:Addr) (name:Str) (n:Nat) (m:List D→Option D) (fo:FE) (fa:DSt→Option (List R)):FE:=fun δ=>(fo δ).bind fun r=>match r.view with
 | .obj C' fs=>if C'=C∧fs.lookup name=none then (fa δ).bind fun rs=>gi n m (r::rs) else none
 | _=>none
theorem tD_meth {C:Addr} {name:Str} {σ:St} {H:Hp} {Q:VK} (h:tD (ez C name n m fo fr) σ H Q):tMeth C name (spD n m) [] E (tD fo) (tDA fr) σ H Q:=by
 obtain ⟨Hs,δ,r,S,En,e,K⟩:=h
 unfold ez at e
 cases ea:fo δ with
 | none=>rw [ea] at e;cases e
 | some ra=>
  rw [ea] at e
  refine ⟨Hs,δ,ra,S,En,ea,fun x Hs1 H1 W1 R1=>?_⟩
  have vw:=R1.view
  replace e:(match ra.view with
   | .obj C' fs=>if C'=C∧fs.lookup name=none then (fr δ).bind fun rs=>gi n m (ra::rs) else none
   | _=>none)=some r:=e
  cases hv:ra.view with
  | obj C' fs=>
   rw [hv] at e vw
   replace e:(if C'=C∧fs.lookup name=none then (fr δ).bind fun rs=>gi n m (ra::rs) else none)=some r:=e
   by_cases hc:C'=C∧fs.lookup name=none
   ·
    rw [if_pos hc] at e
    obtain ⟨hC,hn⟩:=hc
    subst hC
    obtain ⟨a,dx,fvs,e1,h1,h2⟩:=vw.obj W1.sub
    refine ⟨a,dx,fvs,e1,h1,h2.none hn,?_⟩
    cases eb:fr δ with
    | none=>rw [eb] at e;cases e
    | some rs=>
     rw [eb] at e
     refine ⟨Hs1,δ,rs,W1.sub,En.mono W1,eb,fun vs Hs2 H2 W2 R2=>?_⟩
     show spD n m (x::(vs++[])) H2 Q E
     rw [List.append_nil]
     exact kl (rs:=ra::rs) (W1.trans W2) (show b9 H Hs2 H2 (ra::rs) (x::vs) from ⟨x,vs,rfl,R1.mono W2,R2.older W1.keep⟩) e K
   ·
    rw [if_neg hc] at e;cases e
  | _=>rw [hv] at e;cases e
def ao (o:D→Option R) (fa:DSt→Option (List R)):FE:=fun δ=>(fa δ).bind fun rs=>match rs with
 | [r]=>o r.view
 | _=>none
def rC1 (o:D→Option R):List V→Hp→VK→Prop:=fun xs H Q=>∃ x,xs=[x]∧rD1 o x H Q
theorem km {o:D→Option R} {σ:St} {H:Hp} {Q:VK} (h:tD (ao o fr) σ H Q):tCB (rC1 o) (tDA fr) σ H Q:=by
 obtain ⟨Hs,δ,r,S,En,e,K⟩:=h
 unfold ao at e
 cases ea:fr δ with
 | none=>rw [ea] at e;cases e
 | some rs=>
  rw [ea] at e
  refine ⟨Hs,δ,rs,S,En,ea,fun vs Hs1 H1 W1 R1=>?_⟩
  match rs,e,R1 with
  | [r1],e,⟨v,t,ev,q1,q2⟩=>
   have q2:t=[]:=q2
   subst q2
   exact ⟨v,ev,Hs1,r1.view,r,W1.sub,q1.view,e,fun u Hs2 H2 W2 R2=>K u Hs2 H2 (W1.trans W2) (R2.older W1.keep)⟩
def ba (o:D→D→Option R) (fa:DSt→Option (List R)):FE:=fun δ=>(fa δ).bind fun rs=>match rs with
 | [r,s]=>o r.view s.view
 | _=>none
def rC2 (o:D→D→Option R):List V→Hp→VK→Prop:=fun xs H Q=>∃ x y,xs=[x,y]∧rD o x y H Q
theorem tD_call2 {o:D→D→Option R} {σ:St} {H:Hp} {Q:VK} (h:tD (ba o fr) σ H Q):tCB (rC2 o) (tDA fr) σ H Q:=by
 obtain ⟨Hs,δ,r,S,En,e,K⟩:=h
 unfold ba at e
 cases ea:fr δ with
 | none=>rw [ea] at e;cases e
 | some rs=>
  rw [ea] at e
  refine ⟨Hs,δ,rs,S,En,ea,fun vs Hs1 H1 W1 R1=>?_⟩
  match rs,e,R1 with
  | [r1,r2],e,⟨v,t,ev,q1,⟨v2,t2,ev2,p1,p2⟩⟩=>
   have p2:t2=[]:=p2
   subst p2
   exact ⟨v,v2,by rw [ev,ev2],Hs1,r1.view,r2.view,r,W1.sub,q1.view,p1.view,e,fun u Hs2 H2 W2 R2=>K u Hs2 H2 (W1.trans W2) (R2.older W1.keep)⟩
end
def Fp (H:Hp):E→V→Addr→Prop
 | .sh _,_,_=>False
 | .ow _,v,b=>v=.ref b
 | .ob a C _,_,b=>b=a∨∃ fvs,H a=some (.ins C b fvs)
 | .nw d,v,b=>∃ L,Own H d v L∧b∈L
 | .on _ d,v,b=>∃ L,Own H d v L∧b∈L
 | .scr _ _,_,_=>False
 | .exc _,_,_=>False
theorem dD.fp {Hs H:Hp} {e:E} {v:V} {b:Addr} (h:dD Hs H e v) (f:Fp H e v b):Hs b=none∧∃ o,H b=some o:=by
 cases e with
 | sh d=>cases f
 | ow ds=>
  obtain ⟨a,vs,e1,m,h1,h2⟩:=h
  rw [e1] at f;cases f
  exact ⟨m,_,h1⟩
 | ob a C fs=>
  obtain ⟨e1,dx,fvs,m,m2,h1,h3,h2⟩:=h
  rcases f with rfl | ⟨fvs',f⟩
  ·
   exact ⟨m,_,h1⟩
  ·
   rw [h1] at f;cases f
   exact ⟨m2,_,h3⟩
 | nw d=>
  obtain ⟨L,h1,h2⟩:=h
  obtain ⟨L',h3,hb⟩:=f
  rw [Own.uniq d h3 h1] at hb
  exact ⟨h2 b hb,Own.cell d h1 b hb⟩
 | on a d=>
  obtain ⟨_,L,h1,h2⟩:=h
  obtain ⟨L',h3,hb⟩:=f
  rw [Own.uniq d h3 h1] at hb
  exact ⟨h2 b hb,Own.cell d h1 b hb⟩
 | scr K ns=>cases f
 | exc C=>cases f
theorem dD.agree {Hs H H':Hp} {e:E} {v:V} (h:dD Hs H e v) (k:∀ b,Fp H e v b→H' b=H b):dD Hs H' e v∧∀ b,Fp H' e v b→Fp H e v b:=by
 cases e with
 | sh d=>exact ⟨h,fun b f=>f⟩
 | ow ds=>
  obtain ⟨a,vs,e1,m,h1,h2⟩:=h
  exact ⟨⟨a,vs,e1,m,by rw [k a e1];exact h1,h2⟩,fun b f=>f⟩
 | ob a C fs=>
  obtain ⟨e1,dx,fvs,m,m2,h1,h3,h2⟩:=h
  have ka:=k a (.inl rfl)
  exact ⟨⟨e1,dx,fvs,m,m2,by rw [ka];exact h1,by rw [k dx (.inr ⟨fvs,h1⟩)];exact h3,h2⟩,fun b f=>by
   rcases f with f | ⟨fvs',f⟩
   ·
    exact .inl f
   ·
    rw [ka] at f;exact .inr ⟨fvs',f⟩⟩
 | nw d=>
  obtain ⟨L,h1,h2⟩:=h
  have h1':Own H' d v L:=h1.agree d fun b hb=>k b ⟨L,h1,hb⟩
  exact ⟨⟨L,h1',h2⟩,fun b ⟨L',f,hb⟩=>⟨L,h1,by rw [Own.uniq d f h1'] at hb;exact hb⟩⟩
 | on a d=>
  obtain ⟨e1,L,h1,h2⟩:=h
  have h1':Own H' d v L:=h1.agree d fun b hb=>k b ⟨L,h1,hb⟩
  exact ⟨⟨e1,L,h1',h2⟩,fun b ⟨L',f,hb⟩=>⟨L,h1,by rw [Own.uniq d f h1'] at hb;exact hb⟩⟩
 | scr K ns=>exact ⟨h,fun b f=>f⟩
 | exc C=>exact ⟨h,fun b f=>f⟩
theorem dD.grow {Hs H H':Hp} {e:E} {v:V} (s:aB H H') (h:dD Hs H e v):dD Hs H' e v∧∀ b,Fp H' e v b→Fp H e v b:=h.agree fun b f=>by
 obtain ⟨_,o,ho⟩:=h.fp f
 rw [ho,s _ _ ho]
theorem dD.frame {Hs Hs1 H:Hp} {e:E} {v:V} (s:aB Hs Hs1) (h:dD Hs H e v) (k:∀ b,Fp H e v b→Hs1 b=none):dD Hs1 H e v:=by
 cases e with
 | sh d=>exact Rep.mono s d h
 | ow ds=>
  obtain ⟨a,vs,e1,m,h1,h2⟩:=h
  exact ⟨a,vs,e1,k a e1,h1,av.mono s _ h2⟩
 | ob a C fs=>
  obtain ⟨e1,dx,fvs,m,m2,h1,h3,h2⟩:=h
  exact ⟨e1,dx,fvs,k a (.inl rfl),k dx (.inr ⟨fvs,h1⟩),h1,h3,cF.mono s _ h2⟩
 | nw d=>
  obtain ⟨L,h1,h2⟩:=h
  exact ⟨L,h1,fun b hb=>k b ⟨L,h1,hb⟩⟩
 | on a d=>
  obtain ⟨e1,L,h1,h2⟩:=h
  exact ⟨e1,L,h1,fun b hb=>k b ⟨L,h1,hb⟩⟩
 | scr K ns=>
  obtain ⟨a,e,h1⟩:=h
  exact ⟨a,e,eO s h1⟩
 | exc C=>
  obtain ⟨a,e,o,h1,h2⟩:=h
  exact ⟨a,e,o,s _ _ h1,h2⟩
structure StR (H0 Hs H:Hp) (δ:DSt) (σ:St):Prop where
 ent:cG Hs H δ σ
 len:σ.length=δ.length
 new:∀ (i:Nat) (e:E) (v:V) (b:Addr),δ[i]?=some (some e)→σ[i]?=some (some v)→Fp H e v b→H0 b=none
 dis:∀ (i j:Nat) (e e':E) (v v':V) (b:Addr),i≠j→δ[i]?=some (some e)→δ[j]?=some (some e')→σ[i]?=some (some v)→σ[j]?=some (some v')→Fp H e v b→Fp H e' v' b→False
theorem StR.rep {H0 Hs H:Hp} {δ:DSt} {σ:St} (h:StR H0 Hs H δ σ) {i:Nat} {e:E} {v:V} (q:δ[i]?=some (some e)) (hv:σ[i]?=some (some v)):dD Hs H e v:=by
 obtain ⟨v',h1,h2⟩:=h.ent i e q
 rw [hv] at h1;cases h1
 exact h2
theorem StR.mono {H0 H Hs Hs' H':Hp} {δ:DSt} {σ:St} (w:Wd H Hs Hs' H') (h:StR H0 Hs H δ σ):StR H0 Hs' H' δ σ:=by
 have g:∀ (i:Nat) (e:E) (v:V) (b:Addr),δ[i]?=some (some e)→σ[i]?=some (some v)→Fp H' e v b→Fp H e v b:=fun i e v b q1 q2 f=>((h.rep q1 q2).grow w.keep).2 b f
 exact ⟨h.ent.mono w,h.len,fun i e v b q1 q2 f=>h.new i e v b q1 q2 (g i e v b q1 q2 f),fun i j e e' v v' b n q1 q2 q3 q4 f f'=>h.dis i j e e' v v' b n q1 q2 q3 q4 (g i e v b q1 q3 f) (g j e' v' b q2 q4 f')⟩
theorem get_set {α:Type} {l:List α} {i j:Nat} {x y:α} (h:(l.set i x)[j]?=some y):(j=i∧y=x∧i<l.length)∨(j≠i∧l[j]?=some y):=by
 by_cases hj:j=i
 ·
  subst hj
  have hl:j<l.length:=by
   have:=(List.getElem?_eq_some_iff.mp h).1
   simpa using this
  rw [List.getElem?_set_self hl] at h
  exact .inl ⟨rfl,(Option.some.inj h).symm,hl⟩
 ·
  rw [List.getElem?_set_ne (Ne.symm hj)] at h
  exact .inr ⟨hj,h⟩
theorem StR.upG {H0 Hs0 Hs H Hs' H':Hp} {δ:DSt} {σ:St} {i:Nat} {e e':E} {v v':V} (W:Wd H0 Hs0 Hs H) (S:StR H0 Hs H δ σ) (q:δ[i]?=some (some e)) (hv:σ[i]?=some (some v))
  (keep:∀ b o,¬Fp H e v b→H b=some o→H' b=some o) (sub:aB Hs' H') (base:aB Hs Hs') (new:∀ a o,Hs' a=some o→Hs a=some o∨H a=none)
  (r:dD Hs' H' e' v') (own:∀ b,Fp H' e' v' b→Fp H e v b∨H b=none) :
  Wd H0 Hs0 Hs' H'∧StR H0 Hs' H' (δ.set i (some e')) (σ.set i (some v')):=by
 have hi:i<δ.length:=(List.getElem?_eq_some_iff.mp q).1
 have ag:∀ (j:Nat) (en:E) (u:V),j≠i→δ[j]?=some (some en)→σ[j]?=some (some u)→dD Hs' H' en u∧∀ b,Fp H' en u b→Fp H en u b:=fun j en u hj q1 q2=>by
  have r0:=S.rep q1 q2
  obtain ⟨r1,f1⟩:=r0.agree (H':=H') fun b f=>by
   obtain ⟨_,o,ho⟩:=r0.fp f
   rw [ho]
   exact keep b o (fun z=>S.dis j i en e u v b hj q1 q q2 hv f z) ho
  refine ⟨r1.frame base fun b f=>?_,f1⟩
  obtain ⟨m,o,ho⟩:=r0.fp (f1 b f)
  cases z:Hs' b with
  | none=>rfl
  | some o'=>
   rcases new b o' z with z' | z'
   ·
    rw [m] at z';cases z'
   ·
    rw [ho] at z';cases z'
 refine ⟨⟨fun b o hb=>?_,sub,W.base.trans base,fun a o ha=>?_⟩,⟨fun j en hj=>?_,by simpa using S.len,fun j en u b hj hu f=>?_,fun j k e1 e2 u1 u2 b hjk h1 h2 g1 g2 f1 f2=>?_⟩⟩
 ·
  refine keep b o (fun z=>?_) (W.keep _ _ hb)
  rw [S.new i e v b q hv z] at hb;cases hb
 ·
  rcases new a o ha with z | z
  ·
   exact W.new a o z
  ·
   exact .inr (W.keep.free z)
 ·
  rcases get_set hj with ⟨rfl,e1,_⟩ | ⟨hne,q1⟩
  ·
   cases e1
   exact ⟨v',List.getElem?_set_self (by rw [S.len];exact hi),r⟩
  ·
   obtain ⟨u,hu,_⟩:=S.ent j en q1
   exact ⟨u,by rw [List.getElem?_set_ne (Ne.symm hne)];exact hu,(ag j en u hne q1 hu).1⟩
 ·
  rcases get_set hj with ⟨rfl,e1,_⟩ | ⟨hne,q1⟩
  ·
   cases e1
   rw [List.getElem?_set_self (by rw [S.len];exact hi)] at hu
   cases hu
   rcases own b f with z | z
   ·
    exact S.new _ e v b q hv z
   ·
    exact W.keep.free z
  ·
   rw [List.getElem?_set_ne (Ne.symm hne)] at hu
   exact S.new j en u b q1 hu ((ag j en u hne q1 hu).2 b f)
 ·
  have other:∀ (j:Nat) (en:E) (u:V),j≠i→δ[j]?=some (some en)→σ[j]?=some (some u)→Fp H' en u b→Fp H' e' v' b→False:=fun j en u hne q1 q2 f f'=>by
   have f0:=(ag j en u hne q1 q2).2 b f
   rcases own b f' with z | z
   ·
    exact S.dis j i en e u v b hne q1 q q2 hv f0 z
   ·
    obtain ⟨_,o,ho⟩:=(S.rep q1 q2).fp f0
    rw [ho] at z;cases z
  rcases get_set h1 with ⟨rfl,z1,_⟩ | ⟨hne,q1⟩
  ·
   rcases get_set h2 with ⟨rfl,z2,_⟩ | ⟨hne2,q2⟩
   ·
    exact hjk rfl
   ·
    cases z1
    rw [List.getElem?_set_self (by rw [S.len];exact hi)] at g1
    rw [List.getElem?_set_ne (Ne.symm hne2)] at g2
    cases g1
    exact other k e2 u2 hne2 q2 g2 f2 f1
  ·
   rw [List.getElem?_set_ne (Ne.symm hne)] at g1
   rcases get_set h2 with ⟨rfl,z2,_⟩ | ⟨hne2,q2⟩
   ·
    cases z2
    rw [List.getElem?_set_self (by rw [S.len];exact hi)] at g2
    cases g2
    exact other j e1 u1 hne q1 g1 f1 f2
   ·
    rw [List.getElem?_set_ne (Ne.symm hne2)] at g2
    exact S.dis j k e1 e2 u1 u2 b hjk q1 q2 g1 g2 ((ag j e1 u1 hne q1 g1).2 b f1) ((ag k e2 u2 hne2 q2 g2).2 b f2)
theorem StR.put {H0 Hs H Hs' H':Hp} {δ:DSt} {σ:St} {i:Nat} {e':E} {v':V} (k:aB H0 H) (S:StR H0 Hs H δ σ) (w:Wd H Hs Hs' H') (r:dD Hs' H' e' v') (own:∀ b,Fp H' e' v' b→H b=none) :
  StR H0 Hs' H' (δ.set i (some e')) (σ.set i (some v')):=by
 have S':=S.mono w
 have back:∀ (j:Nat) (en:E) (u:V) (b:Addr),δ[j]?=some (some en)→σ[j]?=some (some u)→Fp H' en u b→∃ o,H b=some o:=fun j en u b q1 q2 f=>((S.rep q1 q2).fp (((S.rep q1 q2).grow w.keep).2 b f)).2
 refine ⟨fun j en hj=>?_,by simpa using S.len,fun j en u b hj hu f=>?_,fun j k e1 e2 u1 u2 b hjk h1 h2 g1 g2 f1 f2=>?_⟩
 ·
  rcases get_set hj with ⟨rfl,e1,hl⟩ | ⟨hne,q1⟩
  ·
   cases e1
   exact ⟨v',List.getElem?_set_self (by rw [S.len];exact hl),r⟩
  ·
   obtain ⟨u,hu,hr⟩:=S'.ent j en q1
   exact ⟨u,by rw [List.getElem?_set_ne (Ne.symm hne)];exact hu,hr⟩
 ·
  rcases get_set hj with ⟨rfl,e1,hl⟩ | ⟨hne,q1⟩
  ·
   cases e1
   rw [List.getElem?_set_self (by rw [S.len];exact hl)] at hu
   cases hu
   exact k.free (own b f)
  ·
   rw [List.getElem?_set_ne (Ne.symm hne)] at hu
   exact S'.new j en u b q1 hu f
 ·
  have other:∀ (j:Nat) (en:E) (u:V),δ[j]?=some (some en)→σ[j]?=some (some u)→Fp H' en u b→Fp H' e' v' b→False:=fun j en u q1 q2 f f'=>by
   obtain ⟨o,ho⟩:=back j en u b q1 q2 f
   rw [own b f'] at ho;cases ho
  rcases get_set h1 with ⟨rfl,z1,hl⟩ | ⟨hne,q1⟩
  ·
   rcases get_set h2 with ⟨rfl,z2,_⟩ | ⟨hne2,q2⟩
   ·
    exact hjk rfl
   ·
    cases z1
    rw [List.getElem?_set_self (by rw [S.len];exact hl)] at g1
    rw [List.getElem?_set_ne (Ne.symm hne2)] at g2
    cases g1
    exact other k e2 u2 q2 g2 f2 f1
  ·
   rw [List.getElem?_set_ne (Ne.symm hne)] at g1
   rcases get_set h2 with ⟨rfl,z2,hl⟩ | ⟨hne2,q2⟩
   ·
    cases z2
    rw [List.getElem?_set_self (by rw [S.len];exact hl)] at g2
    cases g2
    exact other j e1 u1 q1 g1 f1 f2
   ·
    rw [List.getElem?_set_ne (Ne.symm hne2)] at g2
    exact S'.dis j k e1 e2 u1 u2 b hjk q1 q2 g1 g2 f1 f2
theorem set_same {α:Type} {l:List α} {i:Nat} {x:α} (h:l[i]?=some x):l.set i x=l:=by
 apply List.ext_getElem?
 intro j
 by_cases hj:i=j
 ·
  subst hj
  rw [List.getElem?_set_self (List.getElem?_eq_some_iff.mp h).1,h]
 ·
  rw [List.getElem?_set_ne hj]
inductive Res where
 | nx (δ:DSt)
 | rt (r:R)
 | bk (δ:DSt)
 | ct (δ:DSt)
 | rn (d:D)
def Post (H0 Hs0:Hp) (D:Ends):Res→Prop
 | .nx δ=>∀ σ Hs H,Wd H0 Hs0 Hs H→StR H0 Hs H δ σ→D.nx σ H
 | .rt r=>∀ v Hs H,Wd H0 Hs0 Hs H→cB H0 Hs H r v→D.rt v H
 | .bk δ=>∀ σ Hs H,Wd H0 Hs0 Hs H→StR H0 Hs H δ σ→D.bk σ H
 | .ct δ=>∀ σ Hs H,Wd H0 Hs0 Hs H→StR H0 Hs H δ σ→D.ct σ H
 | .rn d=>∀ v Hs H L,Wd H0 Hs0 Hs H→Own H d v L→(∀ a∈L,H0 a=none∧Hs a=none)→D.rt v H
abbrev FS:=DSt→Option Res
def tS (H0 Hs0:Hp) (F:FS):TS:=fun D σ H=>∃ Hs δ res,Wd H0 Hs0 Hs H∧StR H0 Hs H δ σ∧F δ=some res∧Post H0 Hs0 D res
structure DS (X:Cx) (st:Stmt) (F:FS):Prop where
 go:∀ H0 Hs0,PS X st (tS H0 Hs0 F)
structure DSs (X:Cx) (st:List Stmt) (F:FS):Prop where
 go:∀ H0 Hs0,PSs X st (tS H0 Hs0 F)
def Res.thn (G:FS):Res→Option Res
 | .nx δ=>G δ
 | .rt r=>some (.rt r)
 | .bk δ=>some (.bk δ)
 | .ct δ=>some (.ct δ)
 | .rn d=>some (.rn d)
def aN:FS:=fun δ=>some (.nx δ)
def aL (F G:FS):FS:=fun δ=>(F δ).bind (Res.thn G)
section
variable {X:Cx} {st:Stmt} {rest:List Stmt} {F G:FS} {e:Expr} {f:FE} {pos:Pos}
theorem dss_nil:DSs X [] aN:=.mk fun H0 Hs0=>pss_nil.weak fun D σ H ⟨Hs,δ,res,W,S,e,P⟩=>by
 cases e
 exact P σ Hs H W S
theorem am (h1:DS X st F) (h2:DSs X rest G):DSs X (st::rest) (aL F G):=.mk fun H0 Hs0=>(kd (h1.go H0 Hs0) (h2.go H0 Hs0)).weak fun D σ H ⟨Hs,δ,res,W,S,e,P⟩=>by
 unfold aL at e
 cases ef:F δ with
 | none=>rw [ef] at e;cases e
 | some r1=>
  rw [ef] at e
  refine ⟨Hs,δ,r1,W,S,ef,?_⟩
  cases r1 with
  | nx δ1=>exact fun σ1 Hs1 H1 W1 S1=>⟨Hs1,δ1,res,W1,S1,e,P⟩
  | rt r=>cases e;exact P
  | bk δ1=>cases e;exact P
  | ct δ1=>cases e;exact P
  | rn d=>cases e;exact P
theorem au (h1:DS X st F):DSs X [st] F:=.mk fun H0 Hs0=>pss_one (h1.go H0 Hs0)
theorem bP:DS X st (fun _=>none):=.mk fun H0 Hs0 pins s σ H D I ⟨Hs,δ,res,W,S,e,P⟩=>by cases e
def sif (t:DSt→Option Bool) (F G:FS):FS:=fun δ=>(t δ).bind fun b=>if b=true then F δ else G δ
theorem ds_if {c:Expr} {a b:List Stmt} {t:DSt→Option Bool} (hc:DT X c t) (ha:DSs X a F) (hb:DSs X b G):DS X (.If c a b pos) (sif t F G):=.mk fun H0 Hs0=>(ps_if hc.go (ha.go H0 Hs0) (hb.go H0 Hs0)).weak fun D σ H ⟨Hs,δ,res,W,S,e,P⟩=>by
 unfold sif at e
 cases et:t δ with
 | none=>rw [et] at e;cases e
 | some k=>
  rw [et] at e
  refine ⟨Hs,δ,k,W.sub,S.ent,et,fun Hs1 H1 W1=>?_⟩
  cases k with
  | true=>rw [if_pos rfl];exact ⟨Hs1,δ,res,W.trans W1,S.mono W1,e,P⟩
  | false=>rw [if_neg Bool.false_ne_true];exact ⟨Hs1,δ,res,W.trans W1,S.mono W1,e,P⟩
def bH (f:FE):FS:=fun δ=>(f δ).bind fun r=>if r.isBw=true then none else some (.rt r)
theorem aW (h:DE X e f):DS X (.Return (some e) pos) (bH f):=.mk fun H0 Hs0=>(jx h.go).weak fun D σ H ⟨Hs,δ,res,W,S,e,P⟩=>by
 unfold bH at e
 cases et:f δ with
 | none=>rw [et] at e;cases e
 | some r=>
  rw [et] at e
  by_cases hb:r.isBw=true
  ·
   rw [show (some r).bind _=(if r.isBw=true then none else some (Res.rt r)) from rfl,if_pos hb] at e;cases e
  ·
   rw [show (some r).bind _=(if r.isBw=true then none else some (Res.rt r)) from rfl,if_neg hb] at e
   cases e
   exact ⟨Hs,δ,r,W.sub,S.ent,et,fun v Hs1 H1 W1 R1=>P v Hs1 H1 (W.trans W1) (R1.older W.keep)⟩
def sretv (i:Nat):FS:=fun δ=>match δ[i]? with
 | some (some (.ow ds))=>some (.rt (.fr ds))
 | some (some (.sh d))=>some (.rt (.sh d))
 | some (some (.nw d))=>some (.rn d)
 | _=>none
def frz (i:Nat) (δ:DSt):DSt:=match δ[i]? with
 | some (some (.ow ds))=>δ.set i (some (.sh (.lst ds)))
 | some (some (.nw d))=>δ.set i (some (.sh d))
 | _=>δ
theorem Own.share {Hs H:Hp} {d:D} {v:V} {L:List Addr} (s:aB Hs H) (h:Own H d v L) (n:∀ a∈L,Hs a=none) :
  ∃ Hs1,Rep Hs1 d v∧aB Hs1 H∧aB Hs Hs1∧∀ a o,Hs1 a=some o→Hs a=some o∨a∈L:=by
 classical
 refine ⟨fun a=>if a∈L then H a else Hs a,h.rep d fun a ha=>by simp [ha],fun a o e=>?_,fun a o e=>?_,fun a o e=>?_⟩
 ·
  by_cases ha:a∈L
  ·
   simpa [ha] using e
  ·
   simp [ha] at e;exact s _ _ e
 ·
  by_cases ha:a∈L
  ·
   rw [n a ha] at e;cases e
  ·
   simp [ha];exact e
 ·
  by_cases ha:a∈L
  ·
   exact .inr ha
  ·
   simp [ha] at e;exact .inl e
theorem StR.frz1 {H0 Hs0 Hs Hs1 H:Hp} {δ:DSt} {σ:St} {i:Nat} {e:E} {v:V} {d:D} (W:Wd H0 Hs0 Hs H) (S:StR H0 Hs H δ σ) (q:δ[i]?=some (some e)) (hv:σ[i]?=some (some v))
  (r:Rep Hs1 d v) (sub:aB Hs1 H) (base:aB Hs Hs1) (new:∀ a o,Hs1 a=some o→Hs a=some o∨Fp H e v a):Wd H0 Hs0 Hs1 H∧StR H0 Hs1 H (δ.set i (some (.sh d))) σ:=by
 have hi:i<δ.length:=(List.getElem?_eq_some_iff.mp q).1
 have fr:∀ (j:Nat) (en:E) (u:V),j≠i→δ[j]?=some (some en)→σ[j]?=some (some u)→dD Hs1 H en u:=fun j en u hj q1 q2=>by
  have r0:=S.rep q1 q2
  refine r0.frame base fun b f=>?_
  obtain ⟨m,_⟩:=r0.fp f
  cases z:Hs1 b with
  | none=>rfl
  | some o=>
   rcases new b o z with z' | z'
   ·
    rw [m] at z';cases z'
   ·
    exact (S.dis j i en e u v b hj q1 q q2 hv f z').elim
 refine ⟨⟨W.keep,sub,W.base.trans base,fun a o ha=>?_⟩,⟨fun j en hj=>?_,by simpa using S.len,fun j en u b hj hu f=>?_,fun j k e1 e2 u1 u2 b hjk h1 h2 g1 g2 f1 f2=>?_⟩⟩
 ·
  rcases new a o ha with z | z
  ·
   exact W.new a o z
  ·
   exact .inr (S.new i e v a q hv z)
 ·
  rcases get_set hj with ⟨rfl,e1,_⟩ | ⟨hne,q1⟩
  ·
   cases e1
   exact ⟨v,hv,r⟩
  ·
   obtain ⟨u,hu,_⟩:=S.ent j en q1
   exact ⟨u,hu,fr j en u hne q1 hu⟩
 ·
  rcases get_set hj with ⟨rfl,e1,_⟩ | ⟨hne,q1⟩
  ·
   cases e1;cases f
  ·
   exact S.new j en u b q1 hu f
 ·
  rcases get_set h1 with ⟨rfl,z1,_⟩ | ⟨hne,q1⟩
  ·
   cases z1;cases f1
  ·
   rcases get_set h2 with ⟨rfl,z2,_⟩ | ⟨hne2,q2⟩
   ·
    cases z2;cases f2
   ·
    exact S.dis j k e1 e2 u1 u2 b hjk q1 q2 g1 g2 f1 f2
theorem StR.frz {H0 Hs0 Hs H:Hp} {δ:DSt} {σ:St} {i:Nat} (W:Wd H0 Hs0 Hs H) (S:StR H0 Hs H δ σ):∃ Hs1,Wd H0 Hs0 Hs1 H∧StR H0 Hs1 H (frz i δ) σ:=by
 unfold Ew.frz
 cases q:δ[i]? with
 | none=>exact ⟨Hs,W,S⟩
 | some o=>
  cases o with
  | none=>exact ⟨Hs,W,S⟩
  | some en=>
   cases en with
   | sh d=>exact ⟨Hs,W,S⟩
   | ob a C fs=>exact ⟨Hs,W,S⟩
   | on b d=>exact ⟨Hs,W,S⟩
   | scr K ns=>exact ⟨Hs,W,S⟩
   | exc C=>exact ⟨Hs,W,S⟩
   | nw d=>
    obtain ⟨v,hv,L,h1,h2⟩:=S.ent i _ q
    obtain ⟨Hs1,r,s1,s2,s3⟩:=h1.share W.sub h2
    exact ⟨Hs1,S.frz1 W q hv r s1 s2 fun a o e=>(s3 a o e).imp id fun z=>⟨L,h1,z⟩⟩
   | ow ds=>
    obtain ⟨v,hv,a,vs,e1,m,h1,h2⟩:=S.ent i _ q
    subst e1
    refine ⟨L2.upd Hs a (.lst vs),S.frz1 W q hv ?_ (fun b o e=>?_) (.new m) fun b o e=>?_⟩
    ·
     unfold Rep
     exact ⟨a,vs,rfl,aj,av.mono (.new m) ds h2⟩
    ·
     by_cases hb:b=a
     ·
      subst hb;rw [aj] at e;cases e;exact h1
     ·
      rw [ak hb] at e;exact W.sub _ _ e
    ·
     by_cases hb:b=a
     ·
      subst hb;exact .inr rfl
     ·
      rw [ak hb] at e;exact .inl e
def sfrz (i:Nat) (F:FS):FS:=fun δ=>F (frz i δ)
theorem ds_frz {i:Nat} (h:DS X st F):DS X st (sfrz i F):=.mk fun H0 Hs0=>(h.go H0 Hs0).weak fun D σ H ⟨Hs,δ,res,W,S,e,P⟩=>by
 obtain ⟨Hs1,W1,S1⟩:=S.frz (i:=i) W
 exact ⟨Hs1,_,res,W1,S1,e,P⟩
def R.ent:R→Option E
 | .sh d=>some (.sh d)
 | .fr ds=>some (.ow ds)
 | .bw _=>none
theorem StR.set {H0 Hs0 H Hs Hs' H':Hp} {δ:DSt} {σ:St} {i:Nat} {r:R} {v:V} {en:E} (W:Wd H0 Hs0 Hs H) (S:StR H0 Hs H δ σ) (w:Wd H Hs Hs' H') (h:cB H Hs' H' r v) (e:r.ent=some en):StR H0 Hs' H' (δ.set i (some en)) (σ.set i (some v)):=by
 refine S.put W.keep w ?_ fun b f=>?_
 ·
  cases r with
  | sh d=>cases e;exact h
  | fr ds=>cases e;obtain ⟨a,vs,e1,_,m,h1,h2⟩:=h;exact ⟨a,vs,e1,m,h1,h2⟩
  | bw ds=>cases e
 ·
  cases r with
  | sh d=>cases e;cases f
  | fr ds=>cases e;obtain ⟨a,vs,e1,n,_⟩:=h;rw [e1] at f;cases f;exact n
  | bw ds=>cases e
def sset (i:Nat) (f:FE):FS:=fun δ=>(f δ).bind fun r=>r.ent.bind fun en=>some (.nx (δ.set i (some en)))
theorem ts_set {H0 Hs0:Hp} {i:Nat} {D:Ends} {σ:St} {H:Hp} (h:tS H0 Hs0 (sset i f) D σ H):tAsg (tD f) (i8 i) D σ H:=by
 obtain ⟨Hs,δ,res,W,S,e,P⟩:=h
 unfold sset at e
 cases et:f δ with
 | none=>rw [et] at e;cases e
 | some r=>
  rw [et] at e
  replace e:(r.ent.bind fun en=>some (Res.nx (δ.set i (some en))))=some res:=e
  cases ee:r.ent with
  | none=>rw [ee] at e;cases e
  | some en=>
   rw [ee] at e
   cases e
   exact ⟨Hs,δ,r,W.sub,S.ent,et,fun v Hs1 H1 W1 R1=>P _ Hs1 H1 (W.trans W1) (S.set W W1 R1 ee)⟩
theorem ds_set {i:Nat} {x:Str} {pos':Pos} (hN:X.N.Nodup) (hi:X.N[i]?=some x) (hx:Loc X.env.scope x) (he:DE X e f) (hs:swapsWith e (some (.Name x pos')) pos.line X.env=pure false:=by rfl)
 (hf:X.fn x=true∨X.env.scope.names.lookup x=some .local:=by first | exact .inl rfl | exact .inr rfl | assumption):DS X (.Assign [.Name x pos'] e pos) (sset i f):=.mk fun H0 Hs0=>(ps_set hN hi hx he.go hs hf).weak fun _ _ _=>ts_set
end
end Ew
end
section
namespace L2
open PySem PySem.Spec
theorem PI.weak {X:Cx} {tg iter:Expr} {t t':TI} (h:PI X tg iter t) (w:∀ σ H R,t' σ H R→t σ H R):PI X tg iter t':=fun pins s σ H R I q=>h pins s σ H R I (w σ H R q)
theorem PG.weak {X:Cx} {tg:Expr} {t t':TG} (h:PG X tg t) (w:∀ v σ H Q,t' v σ H Q→t v σ H Q):PG X tg t':=fun pins s σ H v u Q I r q=>h pins s σ H v u Q I r (w v σ H Q q)
theorem PGs.weak {X:Cx} {ts:List Expr} {t t':TGs} (h:PGs X ts t) (w:∀ v σ H Q,t' v σ H Q→t v σ H Q):PGs X ts t':=fun pins s σ H v u Q I r q=>h pins s σ H v u Q I r (w v σ H Q q)
end L2
namespace Ew
open PySem PySem.Spec L2
structure gj (Hs:Hp) (ks:List Nat) (δ:DSt) (σ:St) (δ':DSt) (σ':St):Prop where
 lenS:σ'.length=σ.length
 lenD:δ'.length=δ.length
 out:∀ j,j∉ks→δ'[j]?=δ[j]?∧σ'[j]?=σ[j]?
 ins:∀ j,j∈ks→∃ d v,δ'[j]?=some (some (.sh d))∧σ'[j]?=some (some v)∧Rep Hs d v
theorem gj.refl {Hs:Hp} {δ:DSt} {σ:St}:gj Hs [] δ σ δ σ:=⟨rfl,rfl,fun _ _=>⟨rfl,rfl⟩,fun _ h=>by cases h⟩
theorem gj.trans {Hs:Hp} {ks js:List Nat} {δ δ1 δ2:DSt} {σ σ1 σ2:St} (a:gj Hs ks δ σ δ1 σ1) (b:gj Hs js δ1 σ1 δ2 σ2):gj Hs (ks++js) δ σ δ2 σ2:=
 ⟨b.lenS.trans a.lenS,b.lenD.trans a.lenD,fun j hj=>by
  have h1:j∉ks:=fun z=>hj (List.mem_append_left _ z)
  have h2:j∉js:=fun z=>hj (List.mem_append_right _ z)
  exact ⟨(b.out j h2).1.trans (a.out j h1).1,(b.out j h2).2.trans (a.out j h1).2⟩,fun j hj=>by
  by_cases h2:j∈js
  ·
   exact b.ins j h2
  ·
   have h1:j∈ks:=(List.mem_append.mp hj).elim id fun z=>absurd z h2
   obtain ⟨d,v,e1,e2,r⟩:=a.ins j h1
   exact ⟨d,v,(b.out j h2).1.trans e1,(b.out j h2).2.trans e2,r⟩⟩
theorem gj.ent {Hs H:Hp} {ks:List Nat} {δ δ':DSt} {σ σ':St} (r:gj Hs ks δ σ δ' σ') (h:cG Hs H δ σ):cG Hs H δ' σ':=fun i e q=>by
 by_cases hi:i∈ks
 ·
  obtain ⟨d,v,e1,e2,rr⟩:=r.ins i hi
  rw [q] at e1;cases e1
  exact ⟨v,e2,rr⟩
 ·
  rw [(r.out i hi).1] at q
  rw [(r.out i hi).2]
  exact h i e q
theorem gj.st {H0 Hs H:Hp} {ks:List Nat} {δ δ':DSt} {σ σ':St} (r:gj Hs ks δ σ δ' σ') (h:StR H0 Hs H δ σ):StR H0 Hs H δ' σ':=by
 have no:∀ i en,δ'[i]?=some (some en)→(∀ d,en≠.sh d)→i∉ks:=fun i en q n hi=>by
  obtain ⟨d,v,e1,_⟩:=r.ins i hi
  rw [q] at e1;cases e1
  exact n d rfl
 have fp:∀ i en v b,δ'[i]?=some (some en)→Fp H en v b→i∉ks:=fun i en v b q f=>no i en q fun d z=>by rw [z] at f;cases f
 refine ⟨r.ent h.ent,by rw [r.lenS,r.lenD];exact h.len,fun i e v b q1 q2 f=>?_,fun i j e e' v v' b hij q1 q2 q3 q4 f f'=>?_⟩
 ·
  have hi:=fp i e v b q1 f
  rw [(r.out i hi).1] at q1;rw [(r.out i hi).2] at q2
  exact h.new i e v b q1 q2 f
 ·
  have hi:=fp i e v b q1 f
  have hj:=fp j e' v' b q2 f'
  rw [(r.out i hi).1] at q1;rw [(r.out i hi).2] at q3
  rw [(r.out j hj).1] at q2;rw [(r.out j hj).2] at q4
  exact h.dis i j e e' v v' b hij q1 q2 q3 q4 f f'
abbrev GD:=D→DSt→Option DSt
abbrev GDs:=List D→DSt→Option DSt
def tG (ks:List Nat) (g:GD):TG:=fun v σ H Q=>∃ Hs δ d δ',aB Hs H∧σ.length=δ.length∧Rep Hs d v∧g d δ=some δ'∧∀ σ',gj Hs ks δ σ δ' σ'→Q σ' H
def tGs (ks:List Nat) (g:GDs):TGs:=fun vs σ H Q=>∃ Hs δ ds δ',aB Hs H∧σ.length=δ.length∧av Hs ds vs∧g ds δ=some δ'∧∀ σ',gj Hs ks δ σ δ' σ'→Q σ' H
structure DG (X:Cx) (tg:Expr) (ks:List Nat) (g:GD):Prop where
 go:PG X tg (tG ks g)
structure DGs (X:Cx) (ts:List Expr) (ks:List Nat) (g:GDs):Prop where
 go:PGs X ts (tGs ks g)
def aH (i:Nat):GD:=fun d δ=>if i<δ.length then some (δ.set i (some (.sh d))) else none
theorem gj.name {Hs:Hp} {i:Nat} {δ:DSt} {σ:St} {d:D} {v:V} (hl:σ.length=δ.length) (hi:i<δ.length) (r:Rep Hs d v):gj Hs [i] δ σ (δ.set i (some (.sh d))) (σ.set i (some v)):=
 ⟨by simp,by simp,fun j hj=>by
  have:i≠j:=fun z=>hj (by simp [z])
  exact ⟨List.getElem?_set_ne this,List.getElem?_set_ne this⟩,fun j hj=>by
  have e:j=i:=by simpa using hj
  subst e
  exact ⟨d,v,List.getElem?_set_self hi,List.getElem?_set_self (by rw [hl];exact hi),r⟩⟩
section
variable {X:Cx} {pos:Pos}
theorem dg_name {i:Nat} {x:Str} (h:PG X (.Name x pos) (i8 i)):DG X (.Name x pos) [i] (aH i):=.mk <| h.weak fun v σ H Q ⟨Hs,δ,d,δ',S,hl,r,e,K⟩=>by
 unfold aH at e
 by_cases hi:i<δ.length
 ·
  rw [if_pos hi] at e
  cases e
  exact K _ (.name hl hi r)
 ·
  rw [if_neg hi] at e;cases e
def gnil:GDs:=fun ds δ=>match ds with
 | []=>some δ
 | _=>none
def fG (g:GD) (gs:GDs):GDs:=fun ds δ=>match ds with
 | d::r=>(g d δ).bind fun δ1=>gs r δ1
 | []=>none
theorem dgs_nil:DGs X [] [] gnil:=.mk <| pgs_nil.weak fun vs σ H Q ⟨Hs,δ,ds,δ',S,hl,r,e,K⟩=>by
 cases ds with
 | nil=>cases e;unfold av at r;exact ⟨r,K σ .refl⟩
 | cons d ds=>cases e
theorem kn {e:Expr} {es:List Expr} {ks js:List Nat} {g:GD} {gs:GDs} (h1:DG X e ks g) (h2:DGs X es js gs)
  (hs:(assignEach (e::es) X.env).map (·.2)=assign e X.env::(assignEach es X.env).map (·.2):=by rfl):DGs X (e::es) (ks++js) (fG g gs):=.mk <|
 (pgs_cons h1.go h2.go hs).weak fun vs σ H Q ⟨Hs,δ,ds,δ',S,hl,r,e,K⟩=>by
  cases ds with
  | nil=>cases e
  | cons d ds=>
   unfold av at r
   obtain ⟨v,t,rfl,r1,r2⟩:=r
   unfold fG at e
   cases eg:g d δ with
   | none=>simp only [eg] at e;cases e
   | some δ1=>
    simp only [eg] at e
    exact ⟨v,t,rfl,Hs,δ,d,δ1,S,hl,r1,eg,fun σ1 q1=>⟨Hs,δ1,ds,δ',S,by rw [q1.lenS,q1.lenD];exact hl,r2,e,fun σ2 q2=>K σ2 (q1.trans q2)⟩⟩
def gtup (n:Nat) (gs:GDs):GD:=fun d δ=>match d with
 | .tup ds=>if ds.length=n then gs ds δ else none
 | _=>none
theorem dg_tup {es:List Expr} {k:Nat} {ks:List Nat} {gs:GDs} {n:Nat} (hc:X.calm=true) (h:DGs X es ks gs)
  (hn:(assignEach es X.env).length=n:=by rfl) (hst:(assignEach es X.env).findIdx? (·.1)=none:=by rfl):DG X (.Tuple es k pos) ks (gtup n gs):=.mk <|
 (pg_tup hc h.go hn hst).weak fun v σ H Q ⟨Hs,δ,d,δ',S,hl,r,e,K⟩=>by
  cases d with
  | tup ds=>
   unfold Rep at r
   obtain ⟨a,vs,rfl,h1,h2⟩:=r
   unfold gtup at e
   by_cases hd:ds.length=n
   ·
    simp only [if_pos hd] at e
    exact ⟨a,vs,rfl,.of (S _ _ h1),h2.length.trans hd,Hs,δ,ds,δ',S,hl,h2,e,K⟩
   ·
    simp only [if_neg hd] at e;cases e
  | _=>cases e
end
def jL (J:It) (Hs1:Hp) (items:List D):Prop:=∀ i Hs H,aB Hs1 Hs→aB Hs H→
 (∀ d,items[i]?=some d→J.go i H∧∀ x H',J.yld i H x H'→∃ Hs',Wd H Hs Hs' H'∧Rep Hs' d x)∧(items.length≤i→J.stop i H)
def tI (fi:DSt→Option (List D)):TI:=fun σ H R=>∃ Hs δ items,aB Hs H∧cG Hs H δ σ∧fi δ=some items∧∀ J Hs' H',Wd H Hs Hs' H'→jL J Hs' items→R J H'
structure DI (X:Cx) (tg iter:Expr) (fi:DSt→Option (List D)):Prop where
 go:PI X tg iter (tI fi)
def bb (f:FE):DSt→Option (List D):=fun δ=>(f δ).bind fun r=>if r.isBw=true then none else match r.view with
 | .lst ds=>some ds
 | _=>none
def itup (f:FE):DSt→Option (List D):=fun δ=>(f δ).bind fun r=>match r with
 | .sh (.tup ds)=>some ds
 | _=>none
theorem ko {K:Frag} {Hs1:Hp} {a:Addr} {vs:List V} {ds:List D} (h:Hs1 a=some (.lst vs)) (r:av Hs1 ds vs):jL (Itl K a) Hs1 ds:=by
 intro i Hs H S1 S2
 have hH:=S2 _ _ (S1 _ _ h)
 refine ⟨fun d hd=>?_,fun hl=>⟨vs,.of hH,by rw [r.length];exact hl⟩⟩
 obtain ⟨v,hv,rv⟩:=r.get hd
 refine ⟨⟨vs,v,.of hH,hv⟩,fun x H' y=>?_⟩
 obtain ⟨rfl,y⟩:=y
 have:=y vs (.of hH)
 rw [hv] at this;cases this
 exact ⟨Hs,.refl S2,Rep.mono S1 _ rv⟩
theorem lh {K:Frag} {Hs1:Hp} {a:Addr} {vs:List V} {ds:List D} (h:Hs1 a=some (.tup vs)) (r:av Hs1 ds vs):jL (Itt K a) Hs1 ds:=by
 intro i Hs H S1 S2
 have hH:=S2 _ _ (S1 _ _ h)
 refine ⟨fun d hd=>?_,fun hl=>⟨vs,.of hH,by rw [r.length];exact hl⟩⟩
 obtain ⟨v,hv,rv⟩:=r.get hd
 refine ⟨⟨vs,v,.of hH,hv⟩,fun x H' y=>?_⟩
 obtain ⟨rfl,y⟩:=y
 have:=y vs (.of hH)
 rw [hv] at this;cases this
 exact ⟨Hs,.refl S2,Rep.mono S1 _ rv⟩
theorem jM {Hs1:Hp} {lo:Int} {n:Nat}:jL (Itr lo n) Hs1 ((List.range n).map fun k=>.int (lo+(k:Nat))):=by
 intro i Hs H S1 S2
 refine ⟨fun d hd=>?_,fun hl=>(show n≤i by simpa using hl)⟩
 have hi:i<n:=by
  have:=(List.getElem?_eq_some_iff.mp hd).1
  simpa using this
 rw [List.getElem?_map,List.getElem?_range hi] at hd
 cases hd
 refine ⟨hi,fun x H' y=>?_⟩
 obtain ⟨rfl,rfl⟩:=y
 exact ⟨Hs,.refl S2,by unfold Rep;rfl⟩
section
variable {X:Cx} {tg l:Expr} {f:FE}
theorem cb (hl:DE X l f):DI X tg l (bb f):=.mk <| (pi_list hl.go).weak fun σ H R ⟨Hs,δ,items,S,En,e,K⟩=>by
 unfold bb at e
 cases ef:f δ with
 | none=>rw [ef] at e;cases e
 | some r=>
  rw [ef] at e
  by_cases hb:r.isBw=true
  ·
   simp only [Option.bind,if_pos hb] at e;cases e
  ·
   simp only [Option.bind,if_neg hb] at e
   refine ⟨Hs,δ,r,S,En,ef,fun x Hs1 H1 W1 R1=>?_⟩
   obtain ⟨Hs2,q,W2⟩:=R1.share W1 (fun ds z=>hb (by rw [z];rfl))
   cases hv:r.view with
   | lst ds=>
    rw [hv] at e q
    cases e
    unfold Rep at q
    obtain ⟨a,vs,rfl,h1,h2⟩:=q
    exact ⟨a,rfl,⟨vs,.of (W2.sub _ _ h1)⟩,K _ Hs2 H1 W2 (ko h1 h2)⟩
   | _=>rw [hv] at e;cases e
theorem di_tup (hl:DE X l f):DI X tg l (itup f):=.mk <| (pi_tup hl.go).weak fun σ H R ⟨Hs,δ,items,S,En,e,K⟩=>by
 unfold itup at e
 cases ef:f δ with
 | none=>rw [ef] at e;cases e
 | some r=>
  rw [ef] at e
  refine ⟨Hs,δ,r,S,En,ef,fun x Hs1 H1 W1 R1=>?_⟩
  match r,e,R1 with
  | .sh (.tup ds),e,R1=>
   cases e
   have R1:Rep Hs1 (.tup items) x:=R1
   unfold Rep at R1
   obtain ⟨a,vs,rfl,h1,h2⟩:=R1
   exact ⟨a,rfl,⟨vs,.of (W1.sub _ _ h1)⟩,K _ Hs1 H1 W1 (lh h1 h2)⟩
def gk (fa:DSt→Option (List R)):DSt→Option (List D):=fun δ=>(fa δ).bind fun rs=>match rs with
 | [.sh (.int j)]=>if -(2 ^ 62)≤j∧j<2 ^ 62 then some ((List.range j.toNat).map fun k=>.int (0+(k:Nat))) else none
 | _=>none
theorem di_range1 {a:Expr} {fa:DSt→Option (List R)} {p pos:Pos} (hg:Gl X "range") (hm:X.mg "range" = none) (ha:DA X [a] fa) (hs:starEach [a] X.env=[(false,eval a X.env)]:=by rfl):DI X tg (.Call (.Name "range" p) [a] [] pos) (gk fa):=.mk <|
 (pi_range1 hg hm ha.go hs).weak fun σ H R ⟨Hs,δ,items,S,En,e,K⟩=>by
  unfold gk at e
  cases ef:fa δ with
  | none=>rw [ef] at e;cases e
  | some rs=>
   rw [ef] at e
   refine ⟨Hs,δ,rs,S,En,ef,fun vs Hs1 H1 W1 R1=>?_⟩
   match rs,e,R1 with
   | [.sh (.int j)],e,⟨v,t,ev,q1,q2⟩=>
    have q2:t=[]:=q2
    have q1:Rep Hs1 (.int j) v:=q1
    unfold Rep at q1
    by_cases hj:-(2 ^ 62)≤j∧j<2 ^ 62
    ·
     simp only [Option.bind,if_pos hj] at e
     cases e
     exact ⟨j,by rw [ev,q1,q2],hj.1,hj.2,K _ Hs1 H1 W1 jM⟩
    ·
     simp only [Option.bind,if_neg hj] at e;cases e
end
def Res.loop (k:DSt→Option Res):Res→Option Res
 | .nx δ=>k δ
 | .ct δ=>k δ
 | .bk δ=>some (.nx δ)
 | .rt r=>some (.rt r)
 | .rn d=>some (.rn d)
def cY (g:GD) (body:FS):List D→DSt→Option Res
 | [],δ=>some (.nx δ)
 | d::r,δ=>(g d δ).bind fun δ1=>(body δ1).bind (Res.loop (cY g body r))
def eP (fi:DSt→Option (List D)) (g:GD) (body:FS):FS:=fun δ=>(fi δ).bind fun items=>cY g body items δ
theorem Wd.via {H0 Hs0 Hs1 H1 Hs H:Hp} (a:Wd H0 Hs0 Hs1 H1) (b:Wd H0 Hs1 Hs H):Wd H0 Hs0 Hs H:=
 ⟨b.keep,b.sub,a.base.trans b.base,fun c o e=>by
  rcases b.new c o e with q | q
  ·
   exact a.new c o q
  ·
   exact .inr q⟩
section
variable {X:Cx} {tg iter:Expr} {body:List Stmt} {fi:DSt→Option (List D)} {ks:List Nat} {g:GD} {F:FS} {pos:Pos}
theorem ds_for (hp:PassesOwn (model X.prog X.w) X.A X.env X.xe) (hc:X.calm=true) (hi:DI X tg iter fi) (hg:DG X tg ks g) (hb:DSs X body F)
  (hs:∀ x,foldedSetIterable iter X.env x=pure x:=by intro _;rfl):DS X (.For tg iter body [] pos) (eP fi g F):=.mk fun H0 Hs0=>by
 have hb':PSs X body (fun D σ H=>∃ Hs1,tS H0 Hs1 F D σ H):=fun pins s σ H D I ⟨Hs1,h⟩=>hb.go H0 Hs1 pins s σ H D I h
 refine (ps_for hp hc hi.go hg.go hb' hs).weak fun D σ H ⟨Hs,δ,res,W,S,e,P⟩=>?_
 unfold eP at e
 cases ei:fi δ with
 | none=>rw [ei] at e;cases e
 | some items=>
  rw [ei] at e
  refine ⟨Hs,δ,items,W.sub,S.ent,ei,fun J Hs1 H1 W1 Y=>?_⟩
  have W01:=W.trans W1
  refine ⟨fun i m σ H=>m=items.length-i∧i≤items.length∧∃ Hs δ,Wd H0 Hs1 Hs H∧StR H0 Hs H δ σ∧cY g F (items.drop i) δ=some res,
   ⟨items.length,by simp,Nat.zero_le _,Hs1,δ,⟨W01.keep,W1.sub,.refl _,fun _ _ e=>.inl e⟩,S.mono W1,by simpa using e⟩,?_⟩
  rintro i m σ1 H2 ⟨rfl,hi.go,Hs2,δ1,W2,S2,e2⟩
  by_cases hlt:i<items.length
  ·
   have hd:items[i]?=some items[i]:=by simp [hlt]
   obtain ⟨go,yl⟩:=(Y i Hs2 H2 W2.base W2.sub).1 _ hd
   refine .inr ⟨go,fun σ' H'=>i+1≤items.length∧∃ Hs δ,Wd H0 Hs1 Hs H'∧StR H0 Hs H' δ σ'∧cY g F (items.drop (i+1)) δ=some res,fun σ' H' ⟨a,b⟩=>⟨_,by omega,rfl,a,b⟩,fun x H3 y=>?_⟩
   obtain ⟨Hs3,W3,rx⟩:=yl x H3 y
   have S3:=S2.mono W3
   rw [List.drop_eq_getElem_cons hlt] at e2
   unfold cY at e2
   cases eg:g items[i] δ1 with
   | none=>rw [eg] at e2;cases e2
   | some δ2=>
    rw [eg] at e2
    refine ⟨Hs3,δ1,items[i],δ2,W3.sub,S3.len,rx,eg,fun σ4 sr=>?_⟩
    replace e2:((F δ2).bind (Res.loop (cY g F (items.drop (i+1)))))=some res:=e2
    cases eF:F δ2 with
    | none=>rw [eF] at e2;cases e2
    | some r2=>
     rw [eF] at e2
     refine ⟨Hs1,Hs3,δ2,r2,W2.trans W3,sr.st S3,eF,?_⟩
     cases r2 with
     | nx δ3=>exact fun σ5 Hs5 H5 W5 S5=>⟨hlt,Hs5,δ3,W5,S5,e2⟩
     | ct δ3=>exact fun σ5 Hs5 H5 W5 S5=>⟨hlt,Hs5,δ3,W5,S5,e2⟩
     | bk δ3=>cases e2;exact fun σ5 Hs5 H5 W5 S5=>P σ5 Hs5 H5 (W01.via W5) S5
     | rt r=>cases e2;exact fun v Hs5 H5 W5 R5=>P v Hs5 H5 (W01.via W5) R5
     | rn d=>cases e2;exact fun v Hs5 H5 L W5 R5=>P v Hs5 H5 L (W01.via W5) R5
  ·
   have hi':i=items.length:=by omega
   subst hi'
   rw [List.drop_length] at e2
   cases e2
   exact .inl ⟨(Y _ Hs2 H2 W2.base W2.sub).2 (Nat.le_refl _),P σ1 Hs2 H2 (W01.via W2) S2⟩
end
def dIn (m:Nat) (ix:List Nat) (δ:DSt):DSt:=List.replicate m none++ix.map fun i=>(δ[i]?).join
def bQ (g:GD) (c:DSt→Option Bool) (fe:FE) (δ:DSt):List D→Option (List D)
 | []=>some []
 | d::r=>(g d δ).bind fun δ1=>(c δ1).bind fun b=>if b=true then (fe δ1).bind fun r1=>if r1.isBw=true then none else (bQ g c fe δ r).bind fun t=>some (r1.view::t) else bQ g c fe δ r
def bI (fi:DSt→Option (List D)) (g:GD) (c:DSt→Option Bool) (fe:FE) (m:Nat) (ix:List Nat):FE:=fun δ=>(fi δ).bind fun items=>if items.length≤big then (bQ g c fe (dIn m ix δ) items).map .fr else none
theorem entIn {Hs H:Hp} {δ:DSt} {σ:St} (m:Nat) (ix:List Nat) (h:cG Hs H δ σ):cG Hs H (dIn m ix δ) (b6 m ix σ):=fun j e q=>by
 unfold dIn at q
 unfold b6
 by_cases hj:j<m
 ·
  rw [List.getElem?_append_left (by simpa using hj),List.getElem?_replicate] at q
  split at q <;> cases q
 ·
  obtain ⟨k,rfl⟩ : ∃ k,j=m+k:=⟨j-m,by omega⟩
  rw [List.getElem?_append_right (by simp),List.length_replicate,Nat.add_sub_cancel_left,List.getElem?_map] at q ⊢
  cases hi:ix[k]? with
  | none=>rw [hi] at q;cases q
  | some i=>
   rw [hi] at q
   have q':(δ[i]?).join=some e:=by simpa using q
   have q'':δ[i]?=some (some e):=by
    cases z:δ[i]? with
    | none=>rw [z] at q';cases q'
    | some y=>rw [z] at q';simp at q';rw [q']
   obtain ⟨v,hv,hr⟩:=h i e q''
   exact ⟨v,by simp [hv],hr⟩
theorem jN {m:Nat} {ix:List Nat} {δ:DSt} {j:Nat} {e:E} (h:(dIn m ix δ)[j]?=some (some e)):m≤j:=by
 rcases Nat.lt_or_ge j m with hj | hj
 ·
  unfold dIn at h
  rw [List.getElem?_append_left (by simpa using hj),List.getElem?_replicate] at h
  split at h <;> cases h
 ·
  exact hj
theorem tD_comp {fi:DSt→Option (List D)} {ks:List Nat} {g:GD} {c:DSt→Option Bool} {fe:FE} {m:Nat} {ix:List Nat} (hk:∀ j∈ks,j<m) {σ:St} {H:Hp} {Q:VK} (h:tD (bI fi g c fe m ix) σ H Q) :
  je (tI fi) (tG ks g) (tDT c) (tD fe) m ix σ H Q:=by
 obtain ⟨Hs,δ,r,S,En,e,K⟩:=h
 unfold bI at e
 cases ei:fi δ with
 | none=>rw [ei] at e;cases e
 | some items=>
  rw [ei] at e
  replace e:(if items.length≤big then (bQ g c fe (dIn m ix δ) items).map R.fr else none)=some r:=e
  by_cases hbig:items.length≤big
  ·
   rw [if_pos hbig] at e
   cases em:bQ g c fe (dIn m ix δ) items with
   | none=>rw [em] at e;cases e
   | some out=>
    rw [em] at e
    cases e
    refine ⟨Hs,δ,items,S,En,ei,fun J Hs1 H1 W1 Y A hA=>?_⟩
    have En1:cG Hs1 H1 (dIn m ix δ) (b6 m ix σ):=entIn m ix (En.mono W1)
    have len1:(b6 m ix σ).length=(dIn m ix δ).length:=by unfold b6 dIn;simp
    have hA1:Hs1 A=none:=W1.sub.free hA
    refine ⟨fun i n σ' H'=>n=items.length-i∧i≤items.length∧σ'.length=(dIn m ix δ).length∧(∀ j,m≤j→σ'[j]?=(b6 m ix σ)[j]?)∧
     ∃ Hs' ds vs rest,Wd H1 Hs1 Hs' H'∧Hs' A=none∧H' A=some (.lst vs)∧av Hs' ds vs∧ds.length≤i∧bQ g c fe (dIn m ix δ) (items.drop i)=some rest∧out=ds++rest,?_,?_⟩
    ·
     refine ⟨items.length,by simp,Nat.zero_le _,len1,fun _ _=>rfl,Hs1,[],[],out,⟨.new hA,W1.sub.trans (.new hA),.refl _,fun _ _ e=>.inl e⟩,hA1,aj,.nil,Nat.zero_le _,by simpa using em,by simp⟩
    ·
     rintro i n σ1 H2 ⟨rfl,hi,hl1,hσ1,Hs2,ds,vs,rest,W2,hA2,hv2,r2,hd2,e2,eo⟩
     by_cases hlt:i<items.length
     ·
      have hd:items[i]?=some items[i]:=by simp [hlt]
      obtain ⟨go,yl⟩:=(Y i Hs2 H2 W2.base W2.sub).1 _ hd
      refine .inr ⟨go,fun σ' H'=>i+1≤items.length∧σ'.length=(dIn m ix δ).length∧(∀ j,m≤j→σ'[j]?=(b6 m ix σ)[j]?)∧
       ∃ Hs' ds vs rest,Wd H1 Hs1 Hs' H'∧Hs' A=none∧H' A=some (.lst vs)∧av Hs' ds vs∧ds.length≤i+1∧bQ g c fe (dIn m ix δ) (items.drop (i+1))=some rest∧out=ds++rest,
       fun σ' H' ⟨a,b,c',d'⟩=>⟨_,by omega,rfl,a,b,c',d'⟩,fun x H3 y=>?_⟩
      obtain ⟨Hs3,W3,rx⟩:=yl x H3 y
      have W13:=W2.trans W3
      have A3:=W3.stay hv2 hA2
      have v3:=W3.keep _ _ hv2
      have En3:cG Hs3 H3 (dIn m ix δ) σ1:=fun j en q=>by
       obtain ⟨v,hv,hr⟩:=(En1.mono W13) j en q
       exact ⟨v,by rw [hσ1 j (jN q)];exact hv,hr⟩
      rw [List.drop_eq_getElem_cons hlt] at e2
      unfold bQ at e2
      cases eg:g items[i] (dIn m ix δ) with
      | none=>rw [eg] at e2;cases e2
      | some δ2=>
       rw [eg] at e2
       refine ⟨Hs3,_,items[i],δ2,W3.sub,hl1,rx,eg,fun σ4 sr=>?_⟩
       have hl4:σ4.length=(dIn m ix δ).length:=by rw [sr.lenS];exact hl1
       have hσ4:∀ j,m≤j→σ4[j]?=(b6 m ix σ)[j]?:=fun j hj=>by
        rw [(sr.out j fun z=>Nat.not_lt.mpr hj (hk j z)).2];exact hσ1 j hj
       have En4:cG Hs3 H3 δ2 σ4:=sr.ent En3
       replace e2:((c δ2).bind fun b=>if b=true then (fe δ2).bind fun r1=>if r1.isBw=true then none else (bQ g c fe (dIn m ix δ) (items.drop (i+1))).bind fun t=>some (r1.view::t) else bQ g c fe (dIn m ix δ) (items.drop (i+1)))=some rest:=e2
       cases ec:c δ2 with
       | none=>rw [ec] at e2;cases e2
       | some b=>
        rw [ec] at e2
        refine ⟨Hs3,δ2,b,W3.sub,En4,ec,fun Hs5 H5 W5=>?_⟩
        have W15:=W13.trans W5
        have A5:=W5.stay v3 A3
        have v5:=W5.keep _ _ v3
        cases b with
        | false=>
         simp only [Bool.false_eq_true,if_false]
         exact ⟨hlt,hl4,hσ4,Hs5,ds,vs,rest,W15,A5,v5,av.mono (W3.base.trans W5.base) _ r2,by omega,e2,eo⟩
        | true=>
         simp only [if_true]
         replace e2:((fe δ2).bind fun r1=>if r1.isBw=true then none else (bQ g c fe (dIn m ix δ) (items.drop (i+1))).bind fun t=>some (r1.view::t))=some rest:=e2
         cases ef:fe δ2 with
         | none=>rw [ef] at e2;cases e2
         | some r1=>
          rw [ef] at e2
          replace e2:(if r1.isBw=true then none else (bQ g c fe (dIn m ix δ) (items.drop (i+1))).bind fun t=>some (r1.view::t))=some rest:=e2
          by_cases hb:r1.isBw=true
          ·
           rw [if_pos hb] at e2;cases e2
          ·
           rw [if_neg hb] at e2
           cases er:bQ g c fe (dIn m ix δ) (items.drop (i+1)) with
           | none=>rw [er] at e2;cases e2
           | some t=>
            rw [er] at e2
            cases e2
            refine ⟨Hs5,δ2,r1,W5.sub,En4.mono W5,ef,fun v Hs6 H6 W6 R6=>?_⟩
            obtain ⟨Hs7,q7,W7⟩:=R6.share W6 (fun ds z=>hb (by rw [z];rfl))
            have A7:=W7.stay v5 A5
            have v7:=W7.keep _ _ v5
            have W17:=W15.trans W7
            have nA:H1 A=none:=hA
            refine ⟨vs,v7,?_,hlt,hl4,hσ4,Hs7,ds++[r1.view],vs++[v],t,⟨fun b o q=>?_,fun b o q=>?_,W17.base,W17.new⟩,A7,aj,?_,by simp;omega,rfl,by rw [eo];simp⟩
            ·
             rw [r2.length];exact Nat.lt_of_le_of_lt hd2 (Nat.lt_trans hlt (bF hbig))
            ·
             rw [ak (az q nA)];exact W17.keep _ _ q
            ·
             rw [ak (az q A7)];exact W17.sub _ _ q
            ·
             exact av.append (av.mono (W3.base.trans (W5.base.trans W7.base)) _ r2) (.cons q7 .nil)
     ·
      have hi':i=items.length:=by omega
      subst hi'
      rw [List.drop_length] at e2
      cases e2
      refine .inl ⟨(Y _ Hs2 H2 W2.base W2.sub).2 (Nat.le_refl _),K _ Hs2 H2 (W1.trans W2) ⟨A,vs,rfl,W1.keep.free hA,hA2,hv2,?_⟩⟩
      rw [eo,List.append_nil]
      exact r2
  ·
   rw [if_neg hbig] at e;cases e
section
variable {X:Cx} {tg elt iter:Expr} {ifs:List Expr} {scope:Scope} {pos:Pos} {N:List Str} {m:Nat} {ix:List Nat} {ks:List Nat} {g:GD} {c:DSt→Option Bool} {fe:FE} {fi:DSt→Option (List D)}
structure DIfs (X:Cx) (ifs:List Expr) (c:DSt→Option Bool):Prop where
 go:PIfs X ifs (tDT c)
def cn:DSt→Option Bool:=fun _=>some true
theorem bJ:DIfs X [] cn:=.mk <| fun pins s σ H Q I ⟨Hs,δ,b,S,En,e,K⟩=>by
 cases e
 exact pifs_nil pins s σ H Q I (K Hs H (.refl S))
theorem de_comp (hc:X.calm=true) (S:bA X N m ix scope) (hk:∀ j∈ks,j<m) (hi:DI X tg iter fi)
  (hin:∀ cl C s H fp,DG (aV X N scope cl C s H fp) tg ks g∧DIfs (aV X N scope cl C s H fp) ifs c∧DE (aV X N scope cl C s H fp) elt fe)
  (hs:∀ x,foldedSetIterable iter X.env x=pure x:=by intro _;rfl):DE X (.ListComp elt [⟨tg,iter,ifs,0⟩] scope pos) (bI fi g c fe m ix):=.mk <|
 (pe_comp hc S hi.go (fun cl C s H fp=>⟨(hin cl C s H fp).1.go,(hin cl C s H fp).2.1.go,(hin cl C s H fp).2.2.go⟩) hs).weak fun _ _ _=>tD_comp hk
theorem ds_comp {y:Str} {py spos:Pos} {iy:Nat} (hc:X.calm=true) (S:bA X N m ix scope) (hk:∀ j∈ks,j<m) (hi:DI X tg iter fi)
  (hin:∀ cl C s H fp,DG (aV X N scope cl C s H fp) tg ks g∧DIfs (aV X N scope cl C s H fp) ifs c∧DE (aV X N scope cl C s H fp) elt fe)
  (hN:X.N.Nodup) (hiy:X.N[iy]?=some y) (hy:Loc X.env.scope y)
  (hsw:swapsWith (.ListComp elt [⟨tg,iter,ifs,0⟩] scope pos) (some (.Name y py)) spos.line X.env=pure true:=by rfl)
  (hf:X.fn y=true∨X.env.scope.names.lookup y=some .local:=by first | exact .inl rfl | exact .inr rfl | assumption)
  (hs:∀ x,foldedSetIterable iter X.env x=pure x:=by intro _;rfl):DS X (.Assign [.Name y py] (.ListComp elt [⟨tg,iter,ifs,0⟩] scope pos) spos) (sset iy (bI fi g c fe m ix)):=.mk fun H0 Hs0=>
 (ps_comp hc S hi.go (fun cl C s H fp=>⟨(hin cl C s H fp).1.go,(hin cl C s H fp).2.1.go,(hin cl C s H fp).2.2.go⟩) hN hiy hy hsw hf hs).weak fun D σ H h=>tD_comp hk (ts_set h)
end
def run (k:Nat) (F:FS) (ds:List D):Option D:=match F (ds.map (fun d=>some (.sh d))++List.replicate (k-ds.length) none) with
 | some (.rt r)=>if r.isBw=true then none else some r.view
 | some (.nx _)=>some .non
 | some (.rn d)=>some d
 | _=>none
theorem gl {Hs H:Hp} {N:List Str} {ds:List D} {vs:List V} (r:av Hs ds vs):StR H Hs H (ds.map (fun d=>some (E.sh d))++List.replicate (N.length-ds.length) none) (L2.start N vs):=by
 have get:∀ (i:Nat) (e:E),(ds.map (fun d=>some (E.sh d))++List.replicate (N.length-ds.length) none)[i]?=some (some e)→∃ d,ds[i]?=some d∧e=E.sh d:=fun i e h=>by
  by_cases hi:i<ds.length
  ·
   rw [List.getElem?_append_left (by simpa using hi),List.getElem?_map] at h
   cases q:ds[i]? with
   | none=>rw [q] at h;cases h
   | some d=>rw [q] at h;cases h;exact ⟨d,rfl,rfl⟩
  ·
   rw [List.getElem?_append_right (by simpa using hi),List.getElem?_replicate] at h
   split at h <;> cases h
 refine ⟨fun i e h=>?_,?_,fun i e v b h _ f=>?_,fun i j e e' v v' b _ h _ _ _ f=>?_⟩
 ·
  obtain ⟨d,hd,rfl⟩:=get i e h
  obtain ⟨v,hv,rv⟩:=r.get hd
  refine ⟨v,?_,rv⟩
  unfold L2.start
  have hi:i<vs.length:=(List.getElem?_eq_some_iff.mp hv).1
  rw [List.getElem?_append_left (by simpa using hi),List.getElem?_map,hv]
  rfl
 ·
  unfold L2.start
  simp [r.length]
 ·
  obtain ⟨d,_,z⟩:=get i _ h;rw [z] at f;cases f
 ·
  obtain ⟨d,_,z⟩:=get i _ h;rw [z] at f;cases f
section
variable {P:Program} {w:World} {K:Frag} {mg:Str→Option Value} {base:Heap}
theorem fn_D {x qual:Str} {st:Stmt} {f:Addr} {fd:FuncData} {N ps:List Str} {k:Nat} {F:FS} (F0:Fun K x qual st f fd) (S:bU N ps (defScope st))
  (h:∀ (cdv:Value) (A:Around) (outer:List Env) (s:Shared) (H:Hp) (E:XK),aQ k (A.deeper (envOfC qual (defScope st) s.heap.objs.size f cdv))→DSs (dP CX0 P w K mg base N qual (defScope st) f cdv A outer s H E).nox (defBody st) F) :
  bO P w K mg base CX0 (k+1) f fd ps (spD ps.length (run N.length F)):=by
 refine F0.ok S (fun vs H Q E hs=>spD_len hs) (fun cdv A outer s H vs Q E hr hs=>?_)
 obtain ⟨Hs,ds,d,hl,sub,r,em,post⟩:=hs
 refine ⟨_,(h cdv A outer s H E hr).go H Hs,?_⟩
 unfold run at em
 cases eF:F (ds.map (fun d=>some (.sh d))++List.replicate (N.length-ds.length) none) with
 | none=>rw [eF] at em;cases em
 | some res=>
  rw [eF] at em
  refine ⟨Hs,_,res,.refl sub,gl r,eF,?_⟩
  cases res with
  | nx δ=>
   cases em
   exact fun σ Hs1 H1 W1 _=>post .non Hs1 H1 W1 (by unfold Rep;rfl)
  | rt r1=>
   replace em:(if r1.isBw=true then none else some r1.view)=some d:=em
   by_cases hb:r1.isBw=true
   ·
    rw [if_pos hb] at em;cases em
   ·
    rw [if_neg hb] at em
    cases em
    intro v Hs1 H1 W1 R1
    obtain ⟨Hs2,q,W2⟩:=R1.share W1 (fun ds z=>hb (by rw [z];rfl))
    exact post v Hs2 H1 W2 q
  | bk δ=>cases em
  | ct δ=>cases em
  | rn d'=>
   cases em
   intro v Hs1 H1 L W1 O n
   obtain ⟨Hs2,q,s1,s2,s3⟩:=O.share W1.sub fun a ha=>(n a ha).2
   exact post v Hs2 H1 ⟨W1.keep,s1,W1.base.trans s2,fun a o e=>(s3 a o e).elim (W1.new a o) fun z=>.inr (n a z).1⟩ q
end
end Ew
end
section
namespace Ew
open PySem PySem.Spec L2
mutual
def D.py:D→PyData
 | .non=>.none
 | .bl b=>.bool b
 | .int i=>.int i
 | .str x=>.str x
 | .lst xs=>.list (pys xs)
 | .tup xs=>.tuple (pys xs)
 | .obj _ _=>.none
def pys:List D→List PyData
 | []=>[]
 | x::xs=>D.py x::pys xs
end
mutual
def D.plain:D→Bool
 | .non=>true
 | .bl _=>true
 | .int _=>true
 | .str _=>true
 | .lst xs=>eQ xs
 | .tup xs=>eQ xs
 | .obj _ _=>false
def eQ:List D→Bool
 | []=>true
 | x::xs=>D.plain x&&eQ xs
end
section
variable {X:Cx} {pins:List (Addr×Obj)} {σ:St} {H Hs:Hp} {s:Shared}
mutual
theorem kq (I:L2.Inv X pins σ H s) (S:aB Hs H):∀ (d:D) {v:V} {u:Value},d.plain=true→Rep Hs d v→RelV v u→∃ as,Reads s.heap u d.py as
 | .non,v,u,_,h,r=>by unfold Rep at h;subst h;cases (show u=Value.none from r);unfold D.py;exact ⟨_,.none⟩
 | .bl b,v,u,_,h,r=>by unfold Rep at h;subst h;cases (show u=Value.bool b from r);unfold D.py;exact ⟨_,.bool b⟩
 | .int i,v,u,_,h,r=>by unfold Rep at h;subst h;obtain ⟨t,rfl⟩:=r;unfold D.py;exact ⟨_,.int i t⟩
 | .str x,v,u,_,h,r=>by unfold Rep at h;subst h;obtain ⟨t,rfl⟩:=r;unfold D.py;exact ⟨_,.str x t⟩
 | .lst ds,v,u,p,h,r=>by
  unfold Rep at h
  obtain ⟨a,vs,rfl,h1,h2⟩:=h
  cases (show u=Value.ref a from r)
  obtain ⟨z,its,n,rv,e⟩:=I.hok a _ (S _ _ h1)
  unfold D.plain at p
  obtain ⟨as,q⟩:=cZ I S ds p h2 rv
  unfold D.py
  exact ⟨_,.list e rfl rfl (by simpa using q)⟩
 | .tup ds,v,u,p,h,r=>by
  unfold Rep at h
  obtain ⟨a,vs,rfl,h1,h2⟩:=h
  cases (show u=Value.ref a from r)
  obtain ⟨z,its,rv,o,e,c,n,hd⟩:=I.hok a _ (S _ _ h1)
  unfold D.plain at p
  obtain ⟨as,q⟩:=cZ I S ds p h2 rv
  unfold D.py
  exact ⟨_,.tuple e c hd (by simpa using q)⟩
 | .obj _ _,v,u,p,h,r=>by unfold D.plain at p;cases p
theorem cZ (I:L2.Inv X pins σ H s) (S:aB Hs H):∀ (ds:List D) {vs:List V} {us:List Value},eQ ds=true→av Hs ds vs→aA vs us→∃ as,ReadsAll s.heap us (pys ds) as
 | [],vs,us,_,h,r=>by unfold av at h;subst h;cases r;unfold pys;exact ⟨_,.nil⟩
 | d::ds,vs,us,p,h,r=>by
  unfold av at h
  obtain ⟨v,t,rfl,h1,h2⟩:=h
  unfold eQ at p
  rw [Bool.and_eq_true] at p
  cases r with
  | cons r1 r2=>
   obtain ⟨as,q1⟩:=kq I S d p.1 h1 r1
   obtain ⟨bs,q2⟩:=cZ I S ds p.2 h2 r2
   unfold pys
   exact ⟨_,.cons q1 q2⟩
end
theorem aX (I:L2.Inv X pins σ H s) (S:aB Hs H) (d:D) {v:V} {u:Value} (p:d.plain=true) (h:View Hs H d v) (r:RelV v u):∃ as,Reads s.heap u d.py as:=by
 rcases h with h | ⟨ds,a,vs,rfl,rfl,h1,h2⟩
 ·
  exact kq I S d p h r
 ·
  cases (show u=Value.ref a from r)
  obtain ⟨z,its,n,rv,e⟩:=I.hok a _ h1
  unfold D.plain at p
  obtain ⟨as,q⟩:=cZ I S ds p h2 rv
  unfold D.py
  exact ⟨_,.list e rfl rfl (by simpa using q)⟩
end
def okD (d:D):Bool:=d.plain&&(d.py.canLay0&&decide (d.py.depth≤16))
theorem bf {d:D} (h:okD d=true):d.plain=true∧d.py.canLay0=true∧d.py.depth≤16:=by
 unfold okD at h
 rw [Bool.and_eq_true,Bool.and_eq_true] at h
 exact ⟨h.1,h.2.1,of_decide_eq_true h.2.2⟩
theorem fq {d:D} (h:okD d=true):SeqAt.shaped d.py=true:=by
 obtain ⟨_,h1,h2⟩:=bf h
 unfold SeqAt.shaped
 rw [Bool.and_eq_true]
 exact ⟨h1,decide_eq_true (by omega)⟩
def eqP (a b:D):Bool:=PyData.eqv a.py b.py
def oEq (a b:D):Option R:=if okD a=true∧okD b=true then some (.sh (.bl (eqP a b))) else none
def oNe (a b:D):Option R:=if okD a=true∧okD b=true then some (.sh (.bl (!eqP a b))) else none
def oIn (x c:D):Option R:=match c with
 | .lst ys=>if okD x=true∧okD c=true then some (.sh (.bl (ys.any fun y=>eqP y x))) else none
 | .tup ys=>if okD x=true∧okD c=true then some (.sh (.bl (ys.any fun y=>eqP y x))) else none
 | _=>none
def cQ (x c:D):Option R:=match c with
 | .lst ys=>if okD x=true∧okD c=true then some (.sh (.bl (!ys.any fun y=>eqP y x))) else none
 | .tup ys=>if okD x=true∧okD c=true then some (.sh (.bl (!ys.any fun y=>eqP y x))) else none
 | _=>none
def aC:D→D→Option R
 | .int i,.int j=>some (.sh (.int (i+j)))
 | .lst xs,.lst ys=>if xs.length+ys.length≤big then some (.fr (xs++ys)) else none
 | .str x,.str y=>if x.length+y.length≤big then some (.sh (.str (x++y))) else none
 | _,_=>none
def oSub:D→D→Option R
 | .int i,.int j=>some (.sh (.int (i-j)))
 | _,_=>none
def bo:D→D→Option R
 | .int i,.int j=>if (-(2 ^ 64)<i∧i<2 ^ 64)∨(-(2 ^ 64)<j∧j<2 ^ 64) then some (.sh (.int (i*j))) else none
 | .lst xs,.int k=>if k≤1000∧-1000≤k∧xs.length*k.toNat≤big then some (.fr (List.replicate k.toNat xs).flatten) else none
 | _,_=>none
def oMod:D→D→Option R
 | .int i,.int j=>if 0<j then some (.sh (.int (i % j))) else none
 | _,_=>none
def oLt:D→D→Option R
 | .int i,.int j=>some (.sh (.bl (decide (i<j))))
 | _,_=>none
def oLe:D→D→Option R
 | .int i,.int j=>some (.sh (.bl (decide (i≤j))))
 | _,_=>none
def oGt:D→D→Option R
 | .int i,.int j=>some (.sh (.bl (decide (j<i))))
 | _,_=>none
def oGe:D→D→Option R
 | .int i,.int j=>some (.sh (.bl (decide (j≤i))))
 | _,_=>none
def oIx:D→D→Option R
 | .lst xs,.int i=>(atI xs i).map .sh
 | .tup xs,.int i=>(atI xs i).map .sh
 | _,_=>none
def bK:D→Option R
 | .lst xs=>some (.sh (.int xs.length))
 | .tup xs=>some (.sh (.int xs.length))
 | .str x=>if x.length≤big then some (.sh (.int x.length)) else none
 | _=>none
def oList:D→Option R
 | .lst xs=>some (.fr xs)
 | .tup xs=>some (.fr xs)
 | _=>none
def dF:D→D→Option R
 | .int i,.int j=>some (.sh (.int (if j<i then j else i)))
 | _,_=>none
def fH:D→D→Option R
 | .int i,.int j=>some (.sh (.int (if j>i then j else i)))
 | _,_=>none
theorem dR:∀ ds:List D,pys ds=ds.map D.py
 | []=>by unfold pys;rfl
 | d::ds=>by unfold pys;rw [dR ds];rfl
section
variable {X:Cx}
theorem op_oEq (hu:X.A.units+64<cLine):OpR X (compareOp .Eq) (rD oEq):=by
 intro pins s σ H x y v u Q I rx ry h
 obtain ⟨Hs,a,b,r,S,va,vb,e,K⟩:=h
 unfold oEq at e
 by_cases hc:okD a=true∧okD b=true
 ·
  rw [if_pos hc] at e
  cases e
  obtain ⟨as,ra⟩:=aX I S a (bf hc.1).1 va rx
  obtain ⟨bs,rb⟩:=aX I S b (bf hc.2).1 vb ry
  exact SeqAt.compareEq_shaped ra rb (fq hc.1) (fq hc.2) hu ⟨.bl _,H,I,rfl,K _ Hs H (.refl S) (shB _ _ _ _)⟩
 ·
  rw [if_neg hc] at e;cases e
theorem op_oNe (hu:X.A.units+64<cLine):OpR X (compareOp .NotEq) (rD oNe):=by
 intro pins s σ H x y v u Q I rx ry h
 obtain ⟨Hs,a,b,r,S,va,vb,e,K⟩:=h
 unfold oNe at e
 by_cases hc:okD a=true∧okD b=true
 ·
  rw [if_pos hc] at e
  cases e
  obtain ⟨as,ra⟩:=aX I S a (bf hc.1).1 va rx
  obtain ⟨bs,rb⟩:=aX I S b (bf hc.2).1 vb ry
  exact SeqAt.compareNe_shaped ra rb (fq hc.1) (fq hc.2) hu ⟨.bl _,H,I,rfl,K _ Hs H (.refl S) (shB _ _ _ _)⟩
 ·
  rw [if_neg hc] at e;cases e
theorem gm {ys:List D} (h:okD (.lst ys)=true):PyData.canLayAll0 (pys ys)=true∧PyData.depthAll (pys ys)≤16:=by
 obtain ⟨_,h1,h2⟩:=bf h
 unfold D.py at h1 h2
 unfold PyData.canLay0 at h1
 unfold PyData.depth at h2
 exact ⟨h1,by omega⟩
theorem ig {ys:List D} (h:okD (.tup ys)=true):PyData.canLayAll0 (pys ys)=true∧PyData.depthAll (pys ys)≤16:=by
 obtain ⟨_,h1,h2⟩:=bf h
 unfold D.py at h1 h2
 unfold PyData.canLay0 at h1
 unfold PyData.depth at h2
 exact ⟨h1,by omega⟩
theorem ii (x:D) (ys:List D):((pys ys).any fun y=>PyData.eqv y x.py)=ys.any fun y=>eqP y x:=by
 rw [dR,List.any_map];rfl
theorem op_oIn (hu:X.A.units+64<cLine):OpR X (compareOp .In) (rD oIn):=by
 intro pins s σ H x y v u Q I rx ry h
 obtain ⟨Hs,a,b,r,S,va,vb,e,K⟩:=h
 have room:∀ ys:List PyData,PyData.depthAll ys≤16→X.A.units+1+min (PyData.depthAll ys) a.py.depth<cLine:=fun ys hy=>by
  have:min (PyData.depthAll ys) a.py.depth≤PyData.depthAll ys:=Nat.min_le_left _ _
  omega
 cases b with
 | lst ys=>
  unfold oIn at e
  by_cases hc:okD a=true∧okD (.lst ys)=true
  ·
   simp only [if_pos hc] at e
   cases e
   obtain ⟨as,ra⟩:=aX I S a (bf hc.1).1 va rx
   obtain ⟨bs,rb⟩:=aX I S _ (bf hc.2).1 vb ry
   unfold D.py at rb
   refine SeqAt.in_list_reads rb ra (gm hc.2).1 (bf hc.1).2.1 (room _ (gm hc.2).2) ⟨.bl _,H,I,rfl,?_⟩
   rw [ii]
   exact K _ Hs H (.refl S) (shB _ _ _ _)
  ·
   simp only [if_neg hc] at e;cases e
 | tup ys=>
  unfold oIn at e
  by_cases hc:okD a=true∧okD (.tup ys)=true
  ·
   simp only [if_pos hc] at e
   cases e
   obtain ⟨as,ra⟩:=aX I S a (bf hc.1).1 va rx
   obtain ⟨bs,rb⟩:=aX I S _ (bf hc.2).1 vb ry
   unfold D.py at rb
   refine SeqAt.in_tuple_reads rb ra (ig hc.2).1 (bf hc.1).2.1 (room _ (ig hc.2).2) ⟨.bl _,H,I,rfl,?_⟩
   rw [ii]
   exact K _ Hs H (.refl S) (shB _ _ _ _)
  ·
   simp only [if_neg hc] at e;cases e
 | _=>cases e
theorem op_oNotIn (hu:X.A.units+64<cLine):OpR X (compareOp .NotIn) (rD cQ):=by
 intro pins s σ H x y v u Q I rx ry h
 obtain ⟨Hs,a,b,r,S,va,vb,e,K⟩:=h
 have room:∀ ys:List PyData,PyData.depthAll ys≤16→X.A.units+1+min (PyData.depthAll ys) a.py.depth<cLine:=fun ys hy=>by
  have:min (PyData.depthAll ys) a.py.depth≤PyData.depthAll ys:=Nat.min_le_left _ _
  omega
 cases b with
 | lst ys=>
  unfold cQ at e
  by_cases hc:okD a=true∧okD (.lst ys)=true
  ·
   simp only [if_pos hc] at e
   cases e
   obtain ⟨as,ra⟩:=aX I S a (bf hc.1).1 va rx
   obtain ⟨bs,rb⟩:=aX I S _ (bf hc.2).1 vb ry
   unfold D.py at rb
   refine SeqAt.notIn_list_reads rb ra (gm hc.2).1 (bf hc.1).2.1 (room _ (gm hc.2).2) ⟨.bl _,H,I,rfl,?_⟩
   rw [ii]
   exact K _ Hs H (.refl S) (shB _ _ _ _)
  ·
   simp only [if_neg hc] at e;cases e
 | tup ys=>
  unfold cQ at e
  by_cases hc:okD a=true∧okD (.tup ys)=true
  ·
   simp only [if_pos hc] at e
   cases e
   obtain ⟨as,ra⟩:=aX I S a (bf hc.1).1 va rx
   obtain ⟨bs,rb⟩:=aX I S _ (bf hc.2).1 vb ry
   unfold D.py at rb
   refine SeqAt.notIn_tuple_reads rb ra (ig hc.2).1 (bf hc.1).2.1 (room _ (ig hc.2).2) ⟨.bl _,H,I,rfl,?_⟩
   rw [ii]
   exact K _ Hs H (.refl S) (shB _ _ _ _)
  ·
   simp only [if_neg hc] at e;cases e
 | _=>cases e
theorem aJ:OpR X (binaryOp .Add) (rD aC):=by
 intro pins s σ H x y v u Q I rx ry h
 obtain ⟨Hs,a,b,r,S,va,vb,e,K⟩:=h
 match a,b,e,va,vb with
 | .int i,.int j,e,va,vb=>
  cases e
  exact op_add pins s σ H x y v u Q I rx ry ⟨i,j,va.int,vb.int,K _ Hs H (.refl S) (shI _ _ _ _)⟩
 | .lst xs,.lst ys,e,va,vb=>
  by_cases hc:xs.length+ys.length≤big
  ·
   simp only [aC,if_pos hc] at e
   cases e
   obtain ⟨a,vs,ea,h1,h2⟩:=va.lst S
   obtain ⟨b,us,eb,h3,h4⟩:=vb.lst S
   refine op_cat pins s σ H x y v u Q I rx ry ⟨a,b,vs,us,ea,eb,h1,h3,?_,fun p hp=>?_⟩
   ·
    rw [h2.length,h4.length];exact Nat.le_of_lt (bF hc)
   ·
    exact K (.ref p) Hs _ (.fresh S hp) ⟨p,_,rfl,hp,S.free hp,aj,h2.append h4⟩
  ·
   simp only [aC,if_neg hc] at e;cases e
 | .str i,.str j,e,va,vb=>
  by_cases hc:i.length+j.length≤big
  ·
   simp only [aC,if_pos hc] at e
   cases e
   exact lb pins s σ H x y v u Q I rx ry ⟨i,j,va.str,vb.str,Nat.le_of_lt (bF hc),K _ Hs H (.refl S) (shS _ _ _ _)⟩
  ·
   simp only [aC,if_neg hc] at e;cases e
theorem op_oSub:OpR X (binaryOp .Sub) (rD oSub):=by
 intro pins s σ H x y v u Q I rx ry h
 obtain ⟨Hs,a,b,r,S,va,vb,e,K⟩:=h
 match a,b,e,va,vb with
 | .int i,.int j,e,va,vb=>
  cases e
  exact op_sub pins s σ H x y v u Q I rx ry ⟨i,j,va.int,vb.int,K _ Hs H (.refl S) (shI _ _ _ _)⟩
theorem ft:OpR X (binaryOp .Mod) (rD oMod):=by
 intro pins s σ H x y v u Q I rx ry h
 obtain ⟨Hs,a,b,r,S,va,vb,e,K⟩:=h
 match a,b,e,va,vb with
 | .int i,.int j,e,va,vb=>
  by_cases hc:0<j
  ·
   simp only [oMod,if_pos hc] at e
   cases e
   exact op_mod pins s σ H x y v u Q I rx ry ⟨i,j,va.int,vb.int,hc,K _ Hs H (.refl S) (shI _ _ _ _)⟩
  ·
   simp only [oMod,if_neg hc] at e;cases e
theorem bV:OpR X (binaryOp .Mult) (rD bo):=by
 intro pins s σ H x y v u Q I rx ry h
 obtain ⟨Hs,a,b,r,S,va,vb,e,K⟩:=h
 match a,b,e,va,vb with
 | .int i,.int j,e,va,vb=>
  by_cases hc:(-(2 ^ 64)<i∧i<2 ^ 64)∨(-(2 ^ 64)<j∧j<2 ^ 64)
  ·
   simp only [bo,if_pos hc] at e
   cases e
   exact op_mul pins s σ H x y v u Q I rx ry ⟨i,j,va.int,vb.int,hc,K _ Hs H (.refl S) (shI _ _ _ _)⟩
  ·
   simp only [bo,if_neg hc] at e;cases e
 | .lst xs,.int k,e,va,vb=>
  by_cases hc:k≤1000∧-1000≤k∧xs.length*k.toNat≤big
  ·
   simp only [bo,if_pos hc] at e
   cases e
   obtain ⟨a,vs,ea,h1,h2⟩:=va.lst S
   have rr:∀ n:Nat,av Hs (List.replicate n xs).flatten (List.replicate n vs).flatten:=fun n=>by
    induction n with
    | zero=>exact .nil
    | succ n ih=>rw [List.replicate_succ,List.replicate_succ,List.flatten_cons,List.flatten_cons];exact h2.append ih
   refine op_rep pins s σ H x y v u Q I rx ry ⟨a,k,vs,ea,vb.int,h1,by omega,by omega,?_,fun p hp=>?_⟩
   ·
    rw [h2.length];exact Nat.le_of_lt (bF hc.2.2)
   ·
    exact K (.ref p) Hs _ (.fresh S hp) ⟨p,_,rfl,hp,S.free hp,aj,rr _⟩
  ·
   simp only [bo,if_neg hc] at e;cases e
theorem iB:OpR X (compareOp .Lt) (rD oLt):=by
 intro pins s σ H x y v u Q I rx ry h
 obtain ⟨Hs,a,b,r,S,va,vb,e,K⟩:=h
 match a,b,e,va,vb with
 | .int i,.int j,e,va,vb=>cases e;exact op_lt pins s σ H x y v u Q I rx ry ⟨i,j,va.int,vb.int,K _ Hs H (.refl S) (shB _ _ _ _)⟩
theorem fO:OpR X (compareOp .LtE) (rD oLe):=by
 intro pins s σ H x y v u Q I rx ry h
 obtain ⟨Hs,a,b,r,S,va,vb,e,K⟩:=h
 match a,b,e,va,vb with
 | .int i,.int j,e,va,vb=>cases e;exact op_le pins s σ H x y v u Q I rx ry ⟨i,j,va.int,vb.int,K _ Hs H (.refl S) (shB _ _ _ _)⟩
theorem fP:OpR X (compareOp .Gt) (rD oGt):=by
 intro pins s σ H x y v u Q I rx ry h
 obtain ⟨Hs,a,b,r,S,va,vb,e,K⟩:=h
 match a,b,e,va,vb with
 | .int i,.int j,e,va,vb=>cases e;exact op_gt pins s σ H x y v u Q I rx ry ⟨i,j,va.int,vb.int,K _ Hs H (.refl S) (shB _ _ _ _)⟩
theorem kr {H:Hp} {ds:List D} {vs:List V} {i:Int} {d:D} (r:av H ds vs) (h:atI ds i=some d):∃ v,atI vs i=some v∧Rep H d v:=by
 unfold atI at h ⊢
 rw [r.length]
 cases e:ixN ds.length i with
 | none=>rw [e] at h;cases h
 | some j=>
  rw [e] at h
  exact r.get h
theorem ix_oIx:IxR X (rD oIx):=by
 intro value slice pins s σ H x y v u Q I rx ry h hs
 obtain ⟨Hs,a,b,r,S,va,vb,e,K⟩:=h
 match a,b,e,va,vb with
 | .lst xs,.int i,e,va,vb=>
  cases ea:atI xs i with
  | none=>simp only [oIx,ea] at e;cases e
  | some d=>
   simp only [oIx,ea] at e
   cases e
   obtain ⟨a,vs,eq,h1,h2⟩:=va.lst S
   obtain ⟨w,q1,q2⟩:=kr h2 ea
   exact ix_list value slice pins s σ H x y v u Q I rx ry ⟨a,vs,i,w,eq,vb.int,.of h1,q1,K w Hs H (.refl S) q2⟩ hs
 | .tup xs,.int i,e,va,vb=>
  cases ea:atI xs i with
  | none=>simp only [oIx,ea] at e;cases e
  | some d=>
   simp only [oIx,ea] at e
   cases e
   obtain ⟨a,vs,eq,h1,h2⟩:=va.tup S
   obtain ⟨w,q1,q2⟩:=kr h2 ea
   exact ix_tup value slice pins s σ H x y v u Q I rx ry ⟨a,vs,i,w,eq,vb.int,.of h1,q1,K w Hs H (.refl S) q2⟩ hs
theorem c_len:bN X (.builtin "len") (rC1 bK):=by
 intro pins s σ H xs us Q I rv h
 obtain ⟨x,rfl,Hs,d,r,S,vd,e,K⟩:=h
 match d,e,vd with
 | .lst ds,e,vd=>
  cases e
  obtain ⟨a,vs,eq,h1,h2⟩:=vd.lst S
  exact dQ pins s σ H _ us Q I rv ⟨a,vs,by rw [eq],.inl (.of h1),by rw [h2.length];exact K _ Hs H (.refl S) (shI _ _ _ _)⟩
 | .tup ds,e,vd=>
  cases e
  obtain ⟨a,vs,eq,h1,h2⟩:=vd.tup S
  exact dQ pins s σ H _ us Q I rv ⟨a,vs,by rw [eq],.inr (.of h1),by rw [h2.length];exact K _ Hs H (.refl S) (shI _ _ _ _)⟩
 | .str z,e,vd=>
  by_cases hc:z.length≤big
  ·
   simp only [bK,if_pos hc] at e
   cases e
   exact jG pins s σ H _ us Q I rv ⟨z,by rw [vd.str],Nat.le_of_lt (bF hc),K _ Hs H (.refl S) (shI _ _ _ _)⟩
  ·
   simp only [bK,if_neg hc] at e;cases e
theorem c_list:bN X (.type "list") (rC1 oList):=by
 intro pins s σ H xs us Q I rv h
 obtain ⟨x,rfl,Hs,d,r,S,vd,e,K⟩:=h
 match d,e,vd with
 | .lst ds,e,vd=>
  cases e
  obtain ⟨a,vs,eq,h1,h2⟩:=vd.lst S
  exact gd pins s σ H _ us Q I rv ⟨a,vs,by rw [eq],.inl (.of h1),fun p hp=>K _ Hs _ (.fresh S hp) ⟨p,vs,rfl,hp,S.free hp,aj,h2⟩⟩
 | .tup ds,e,vd=>
  cases e
  obtain ⟨a,vs,eq,h1,h2⟩:=vd.tup S
  exact gd pins s σ H _ us Q I rv ⟨a,vs,by rw [eq],.inr (.of h1),fun p hp=>K _ Hs _ (.fresh S hp) ⟨p,vs,rfl,hp,S.free hp,aj,h2⟩⟩
theorem jO (hc:X.calm=true):bN X (.builtin "min") (rC2 dF):=by
 intro pins s σ H xs us Q I rv h
 obtain ⟨x,y,rfl,Hs,a,b,r,S,va,vb,e,K⟩:=h
 match a,b,e,va,vb with
 | .int i,.int j,e,va,vb=>
  cases e
  exact call_min2 hc pins s σ H _ us Q I rv ⟨i,j,by rw [va.int,vb.int],K _ Hs H (.refl S) (shI _ _ _ _)⟩
theorem c_max2 (hc:X.calm=true):bN X (.builtin "max") (rC2 fH):=by
 intro pins s σ H xs us Q I rv h
 obtain ⟨x,y,rfl,Hs,a,b,r,S,va,vb,e,K⟩:=h
 match a,b,e,va,vb with
 | .int i,.int j,e,va,vb=>
  cases e
  exact call_max2 hc pins s σ H _ us Q I rv ⟨i,j,by rw [va.int,vb.int],K _ Hs H (.refl S) (shI _ _ _ _)⟩
end
end Ew
end
section
namespace Ew
open PySem PySem.Spec L2
def gH (sc:Scope) (No N:List Str) (m:Nat) (ix:List Nat) (scope:Scope):Bool:=
 scope.kind==.function&&scope.names.all (fun y=>!(y.2==.cell))&&scope.names.all (fun y=>!(y.2==.local)||scope.names.lookup y.1==some .local)&&N.length==m+ix.length&&
 scope.names.all (fun y=>!(y.2==.free)||(sc.names.lookup y.1==some .cell||sc.names.lookup y.1==some .free))&&
 (List.range ix.length).all fun j=>match ix[j]?,N[m+j]? with
  | some i,some x=>No[i]?==some x&&scope.names.lookup x==some .free
  | _,_=>false
theorem fu {X:Cx} {sc:Scope} {No N:List Str} {m:Nat} {ix:List Nat} {scope:Scope} (h1:X.env.scope=sc) (h2:X.N=No) (h:gH sc No N m ix scope=true):bA X N m ix scope:=by
 unfold gH at h
 simp only [Bool.and_eq_true] at h
 obtain ⟨⟨⟨⟨⟨a,b⟩,c⟩,d⟩,e⟩,f⟩:=h
 refine ⟨by simpa using a,fun y hy z=>?_,fun y hy z=>?_,by simpa using d,fun y hy z=>?_,fun j i x hi hx=>?_⟩
 ·
  have:=List.all_eq_true.mp b y hy
  simp [z] at this
 ·
  have:=List.all_eq_true.mp c y hy
  simpa [z] using this
 ·
  have:=List.all_eq_true.mp e y hy
  show X.env.scope.names.lookup y.1=_∨X.env.scope.names.lookup y.1=_
  rw [h1]
  simpa [z] using this
 ·
  have hj:j<ix.length:=(List.getElem?_eq_some_iff.mp hi).1
  have:=List.all_eq_true.mp f j (List.mem_range.mpr hj)
  rw [hi,hx] at this
  simp only [Bool.and_eq_true] at this
  rw [h2]
  exact ⟨by simpa using this.1,by simpa using this.2⟩
theorem hu64 {A:Around} {k:Nat} (hr:aQ k A):A.units+64<cLine:=by have:=hr.un;omega
section
variable {X:Cx}
theorem ai {i:Int} {j:Nat} {pos:Pos}:DE X (.Constant (.int i) j pos) (ac (.int i)):=iz pe_int fun H=>by unfold Rep;rfl
theorem jg {b:Bool} {j:Nat} {pos:Pos}:DE X (.Constant (.bool b) j pos) (ac (.bl b)):=iz pe_bl fun H=>by unfold Rep;rfl
theorem iC {j:Nat} {pos:Pos}:DE X (.Constant .none j pos) (ac .non):=iz pe_non fun H=>by unfold Rep;rfl
theorem aw {x:Str} {j:Nat} {pos:Pos}:DE X (.Constant (.str x) j pos) (ac (.str x)):=iz iq fun H=>by unfold Rep;rfl
def bls:List D→Option (List Bool)
 | []=>some []
 | .bl b::r=>(bls r).map (b::·)
 | _=>none
theorem jP {H:Hp}:∀ {ds:List D} {bs:List Bool} {vs:List V} {us:List Value},bls ds=some bs→av H ds vs→aA vs us→PyProof.Rows.LSm.BoolsAre us bs
 | [],bs,vs,us,e,r,q=>by
  unfold bls at e;cases e
  unfold av at r;subst r
  cases q
  exact .nil
 | d::ds,bs,vs,us,e,r,q=>by
  match d,e with
  | .bl b,e=>
   unfold bls at e
   cases eb:bls ds with
   | none=>rw [eb] at e;cases e
   | some t=>
    rw [eb] at e;cases e
    unfold av at r
    obtain ⟨v,vr,rfl,r1,r2⟩:=r
    unfold Rep at r1
    subst r1
    cases q with
    | cons q1 q2=>
     cases q1
     exact .cons b (jP eb r2 q2)
def hU:D→Option R
 | .lst ds=>(bls ds).map fun bs=>.sh (.bl (bs.all id))
 | _=>none
def oAny:D→Option R
 | .lst ds=>(bls ds).map fun bs=>.sh (.bl (bs.any id))
 | _=>none
theorem kept_it {s:Shared} {h':Heap} {o:Obj} (hk:∀ b x,b∉[s.heap.objs.size]→(s.heap.push o).get? b=some x→h'.get? b=some x):∀ b x,s.heap.get? b=some x→h'.get? b=some x:=
 fun b x e=>hk b x (fun hm=>by rw [List.mem_singleton.mp hm] at e;exact Nat.lt_irrefl _ (Heap.lt_size e)) (Heap.get?_push_of_some _ e)
theorem c_all (hc:X.calm=true):bN X (.builtin "all") (rC1 hU):=by
 intro pins s σ H xs us Q I rv h
 obtain ⟨x,rfl,Hs,d,r,S,vd,e,K⟩:=h
 match d,e,vd with
 | .lst ds,e,vd=>
  cases eb:bls ds with
  | none=>simp only [hU,eb] at e;cases e
  | some bs=>
   simp only [hU,eb] at e;cases e
   obtain ⟨a,vs,eq,h1,h2⟩:=vd.lst S
   subst eq
   obtain ⟨u,rfl,ru⟩:=rv.one
   cases (show u=Value.ref a from ru)
   obtain ⟨its,rw',pl,hz⟩:=I.list (SqL.of (K:=X.K) h1)
   have hb:=jP eb h2 rw'
   have hl:=pl.isList
   have hh:X.A.handled=none:=I.ok.hd hc
   have hlt:a<s.heap.objs.size:=by obtain ⟨_,e,_⟩:=hl;exact Heap.lt_size e
   refine call_all_walk (wpAny_pyIter_list hl ?_)
   refine ⟨s.heap.objs.size,[s.heap.objs.size,a],[s.heap.objs.size],its.toArray.size,_,_,fun i=>(bs[i]?).getD true,rfl,Walks.list (A:=X.A.in1) hh _ a (Nat.ne_of_lt hlt) its.toArray,
    ⟨⟨_,Heap.get?_push_size _ rfl,rfl,rfl⟩,hl.push _⟩,fun i v s' Q' E' hP hQ=>?_,fun h' tk hk=>?_⟩
   ·
    obtain ⟨b,e,rfl⟩:=hb.get i v (by simpa using hP)
    simp only [e,Option.getD_some] at hQ
    exact wpAny_truthy_bool hQ
   ·
    have e:((List.range its.toArray.size).all fun i=>(bs[i]?).getD true)=bs.all id:=by
     rw [List.size_toArray,hb.length];exact PyProof.Rows.LSm.range_all bs
    rw [e]
    exact ⟨.bl _,H,I.kept (kept_it hk),rfl,K _ Hs H (.refl S) (shB _ _ _ _)⟩
theorem un_list {pins:List (Addr×Obj)} {σ:St} {H Hs:Hp} {s:Shared} (I:L2.Inv X pins σ H s) (S:aB Hs H) {ds:List D} {x:V} {us:List Value} (vd:View Hs H (.lst ds) x) (rv:aA [x] us) :
  ∃ a vs its,us=[.ref a]∧x=.ref a∧H a=some (.lst vs)∧av Hs ds vs∧aA vs its∧PySem.PlainL s.heap a its.toArray∧vs.length≤sizeLine:=by
 obtain ⟨a,vs,eq,h1,h2⟩:=vd.lst S
 subst eq
 obtain ⟨u,rfl,ru⟩:=rv.one
 cases (show u=Value.ref a from ru)
 obtain ⟨its,rw',pl,hz⟩:=I.list (SqL.of (K:=X.K) h1)
 exact ⟨a,vs,its,rfl,rfl,h1,h2,rw',pl,hz⟩
end
section
variable {X:Cx}
def cutD (xs:List D) (lo hi:Option Int):List D:=(xs.drop (HT.sIx xs.length 0 lo)).take (HT.sIx xs.length xs.length hi-HT.sIx xs.length 0 lo)
theorem cut_reps {H:Hp} {ds:List D} {vs:List V} (lo hi:Option Int) (r:av H ds vs):av H (cutD ds lo hi) (cutV vs lo hi):=by
 unfold cutD cutV
 rw [r.length]
 exact (r.drop _).take _
abbrev FO:=DSt→Option (Option Int)
def tDO (f:FO):TO:=fun σ H Q=>∃ Hs δ o,aB Hs H∧cG Hs H δ σ∧f δ=some o∧∀ Hs' H',Wd H Hs Hs' H'→Q o H'
structure DO (X:Cx) (e:Option Expr) (f:FO):Prop where
 go:PO X e (tDO f)
theorem _root_.L2.PO.weak {X:Cx} {e:Option Expr} {t t':TO} (h:PO X e t) (w:∀ σ H Q,t' σ H Q→t σ H Q):PO X e t':=fun pins s σ H Q I q=>h pins s σ H Q I (w σ H Q q)
def cc:FO:=fun _=>some none
def bR (f:FE):FO:=fun δ=>(f δ).bind fun r=>match r with
 | .sh (.int i)=>some (some i)
 | _=>none
theorem dS:DO X none cc:=.mk <| po_none.weak fun σ H Q ⟨Hs,δ,o,S,En,e,K⟩=>by
 cases e
 exact K Hs H (.refl S)
theorem dU {e:Expr} {f:FE} (h:DE X e f):DO X (some e) (bR f):=.mk <| (po_some h.go).weak fun σ H Q ⟨Hs,δ,o,S,En,e,K⟩=>by
 unfold bR at e
 cases ef:f δ with
 | none=>rw [ef] at e;cases e
 | some r=>
  rw [ef] at e
  refine ⟨Hs,δ,r,S,En,ef,fun x Hs1 H1 W1 R1=>?_⟩
  match r,e,R1 with
  | .sh (.int i),e,R1=>
   cases e
   have R1:Rep Hs1 (.int i) x:=R1
   unfold Rep at R1
   exact ⟨i,R1,K Hs1 H1 W1⟩
def bY (f:FE) (fl fh:FO):FE:=fun δ=>(f δ).bind fun r=>(fl δ).bind fun lo=>(fh δ).bind fun hi=>match r.view with
 | .lst ds=>some (.fr (cutD ds lo hi))
 | _=>none
theorem eR {e:Expr} {lo hi:Option Expr} {f:FE} {fl fh:FO} {p2 pos:Pos} (he:DE X e f) (hl:DO X lo fl) (hh:DO X hi fh):DE X (.Subscript e (.Slice lo hi none p2) pos) (bY f fl fh):=.mk <|
 (kh sl_list he.go hl.go hh.go).weak fun σ H Q ⟨Hs,δ,r,S,En,e,K⟩=>by
  unfold bY at e
  cases ef:f δ with
  | none=>rw [ef] at e;cases e
  | some rf=>
   cases el:fl δ with
   | none=>rw [ef,el] at e;cases e
   | some lo=>
    cases eh:fh δ with
    | none=>rw [ef,el,eh] at e;cases e
    | some hi=>
     rw [ef,el,eh] at e
     refine ⟨Hs,δ,rf,S,En,ef,fun x Hs1 H1 W1 R1=>⟨Hs1,δ,lo,W1.sub,En.mono W1,el,fun Hs2 H2 W2=>⟨Hs2,δ,hi,W2.sub,En.mono (W1.trans W2),eh,fun Hs3 H3 W3=>?_⟩⟩⟩
     have vw:=((R1.mono W2).mono W3).view
     replace e:(match rf.view with
      | .lst ds=>some (R.fr (cutD ds lo hi))
      | _=>none)=some r:=e
     cases hv:rf.view with
     | lst ds=>
      rw [hv] at e vw
      cases e
      obtain ⟨a,vs,rfl,h1,h2⟩:=vw.lst W3.sub
      have W13:=W1.trans (W2.trans W3)
      exact ⟨a,vs,rfl,.of h1,fun p hp=>K _ Hs3 _ (W13.trans (.fresh W3.sub hp)) ⟨p,_,rfl,W13.keep.free hp,W3.sub.free hp,aj,cut_reps lo hi h2⟩⟩
     | _=>rw [hv] at e;cases e
end
theorem StR.upd {H0 Hs0 Hs H:Hp} {δ:DSt} {σ:St} {i:Nat} {ds ds':List D} {a:Addr} {vs vs':List V} (W:Wd H0 Hs0 Hs H) (S:StR H0 Hs H δ σ) (q:δ[i]?=some (some (.ow ds))) (hv:σ[i]?=some (some (.ref a)))
  (h1:H a=some (.lst vs)) (m:Hs a=none) (r:av Hs ds' vs'):Wd H0 Hs0 Hs (L2.upd H a (.lst vs'))∧StR H0 Hs (L2.upd H a (.lst vs')) (δ.set i (some (.ow ds'))) σ:=by
 have:=S.upG (Hs':=Hs) (H':=L2.upd H a (.lst vs')) (e':=.ow ds') (v':=.ref a) W q hv (fun b o n e=>by
  have:b≠a:=fun z=>n (by rw [z];rfl)
  rw [ak this];exact e) (fun b o e=>by rw [ak (az e m)];exact W.sub _ _ e) (.refl _) (fun _ _ e=>.inl e) ⟨a,vs',rfl,m,aj,r⟩ (fun b f=>.inl f)
 rw [set_same hv] at this
 exact this
def hV (i:Nat) (f:FE):FS:=fun δ=>match δ[i]? with
 | some (some (.ow ds))=>(f δ).bind fun r=>if r.isBw=true then none else if ds.length≤big then some (.nx (δ.set i (some (.ow (ds++[r.view]))))) else none
 | _=>none
section
variable {X:Cx} {e:Expr} {f:FE}
theorem gI {i:Nat} {x:Str} {xp apos cpos pos:Pos} (hx:PE X (.Name x xp) (tVar i)) (he:DE X e f)
  (hbase:attributeBase (.Name x xp) "append" X.env (eval (.Name x xp) X.env)=eval (.Name x xp) X.env:=by rfl)
  (hfew:((backTo cpos (starEach [e] X.env)).all (fun x=>!x.1)&&(backToKw cpos (keywordEach [] X.env)).all (fun x=>x.1.isSome)
   &&decide ([e].length+([]:List Keyword).length+(if ([]:List Keyword).isEmpty then 0 else 1)<30))=true:=by rfl)
  (hline:(apos.endLine==cpos.line)=true:=by rfl) (hs:starEach [e] X.env=(false,eval e X.env)::starEach [] X.env:=by rfl)
  (hsw:swapsWith (.Call (.Attribute (.Name x xp) "append" apos) [e] [] cpos) none pos.line X.env=pure false:=by rfl) :
  DS X (.Expr (.Call (.Attribute (.Name x xp) "append" apos) [e] [] cpos) pos) (hV i f):=.mk fun H0 Hs0=>
 (ps_expr (pe_bm PySem.F.plainAttrs_list PySem.F.slot_list_append PySem.F.type_list_append gE hx (a5 he.go cr hs) hbase hfew hline hs) hsw).weak fun D σ H ⟨Hs,δ,res,W,S,e,P⟩=>by
  unfold hV at e
  cases q:δ[i]? with
  | none=>rw [q] at e;cases e
  | some o=>
   rw [q] at e
   match o,e with
   | some (.ow ds),e=>
    obtain ⟨v,hv,a,vs,rfl,m,h1,h2⟩:=S.ent i _ q
    cases ef:f δ with
    | none=>simp only [ef] at e;cases e
    | some r=>
     simp only [ef,Option.bind] at e
     by_cases hb:r.isBw=true
     ·
      rw [if_pos hb] at e;cases e
     ·
      rw [if_neg hb] at e
      by_cases hz:ds.length≤big
      ·
       rw [if_pos hz] at e
       cases e
       refine ⟨_,hv,.inl ⟨rfl,vs,.of h1⟩,Hs,δ,r,W.sub,S.ent,ef,fun y Hs1 H1 W1 R1=>?_⟩
       obtain ⟨Hs2,g,W2⟩:=R1.share W1 (fun ds z=>hb (by rw [z];rfl))
       have S2:=S.mono W2
       refine ⟨a,vs,y,rfl,rfl,W2.keep _ _ h1,?_,?_⟩
       ·
        rw [h2.length];exact bF hz
       ·
        obtain ⟨W3,S3⟩:=S2.upd (W.trans W2) q hv (W2.keep _ _ h1) (W2.stay h1 m) ((av.mono W2.base _ h2).append (.cons g .nil))
        exact P σ Hs2 _ W3 S3
      ·
       rw [if_neg hz] at e;cases e
end
section
variable {X:Cx}
def rngD (lo hi:Int):Option R:=if -1000000≤lo∧lo≤1000000∧-1000000≤hi∧hi≤1000000 then some (.fr ((List.range (hi-lo).toNat).map fun k=>.int (lo+(k:Nat)))) else none
def dlistrng (fa:DSt→Option (List R)):FE:=fun δ=>(fa δ).bind fun rs=>match rs with
 | [.sh (.int j)]=>rngD 0 j
 | _=>none
def oNeg:D→Option R
 | .int i=>some (.sh (.int (-i)))
 | _=>none
theorem de_neg {a:Expr} {f:FE} {pos:Pos} (h:DE X a f):DE X (.UnaryOp .USub a pos) (dun oNeg f):=.mk <| (pe_un un_neg h.go).weak fun σ H Q hh=>by
 obtain ⟨Hs,δ,r,S,En,e,K⟩:=hh
 unfold dun at e
 cases ef:f δ with
 | none=>rw [ef] at e;cases e
 | some rf=>
  rw [ef] at e
  refine ⟨Hs,δ,rf,S,En,ef,fun x Hs1 H1 W1 R1=>?_⟩
  have vw:=R1.view
  cases hv:rf.view with
  | int i=>
   rw [hv] at vw
   simp only [Option.bind,hv,oNeg] at e
   cases e
   exact ⟨i,vw.int,K _ Hs1 H1 W1 (shI _ _ _ _)⟩
  | _=>simp only [Option.bind,hv,oNeg] at e;cases e
end
end Ew
end
section
namespace L2
open PySem PySem.Spec PyProof.Rows
section
variable {X:Cx}
def tRev (K:Frag) (te ts:TE):TE:=fun σ H Q=>te σ H fun x H1=>ts σ H1 fun st H2=>st=.int (-1)∧∃ a xs,x=.ref a∧SqL K H2 a xs∧∀ p,H2 p=none→Q (.ref p) (upd H2 p (.lst xs.reverse))
theorem pe_rev {e step:Expr} {te ts:TE} {p2 pos:Pos} (he:PE X e te) (hst:PE X step ts):PE X (.Subscript e (.Slice none none (some step) p2) pos) (tRev X.K te ts):=by
 intro pins s σ H Q I h
 refine Subscript_ (thn (he pins s σ H _ I h) fun v s1 ⟨x,H1,I1,r1,q1⟩=>?_)
 refine wpAny_Slice ?_
 rw [evalPart_none]
 refine wpAny_pure (wpAny_pure ?_)
 rw [evalPart_some]
 refine thn (hst pins s1 σ H1 _ I1 q1) fun u s2 ⟨y,H2,I2,r2,e2,a,xs,ex,hx,q2⟩=>?_
 subst e2
 subst ex
 cases r1
 obtain ⟨t,rfl⟩:=r2
 have I4:Inv X pins σ H2 { s2 with heap:=s2.heap.push { cls:=.type "slice",data:=.fields #[.none,.none,.int (-1) t] } }:=I2.kept (t':=s2.toks) fun b ob q=>Heap.get?_push_of_some _ q
 obtain ⟨its,r,ht,hz⟩:=I4.list hx
 have hlen:=r.length
 show wpAny (model X.prog X.w) X.A (subscriptTail e (.Slice none none (some step) p2) (.ref a) (.ref s2.heap.objs.size)) (EP X pins σ Q) X.xe { s2 with heap:=s2.heap.push { cls:=.type "slice",data:=.fields #[.none,.none,.int (-1) t] } }
 refine tail_any (ops:=[.ref a,.ref s2.heap.objs.size]) ht.isList.typeIs slot_list_getitem.lookup ?_ (by with_unfolding_all rfl)
 refine wpAny_getItem_list_slice ht.isList (Heap.IsSliceOf.new ..) .none .none (.int (-1) t) (by simp) ?_ (by rw [List.size_toArray] <;> omega)
 rw [PySem.W.krv_pick]
 refine ⟨.ref _,_,I4.laid (t':=s2.toks) (o:=.lst xs.reverse) (fun b ob q=>Heap.get?_push_of_some _ q) (Nat.le_refl _) ?_,rfl,q2 _ (I4.hok.fresh (Nat.le_refl _))⟩
 exact ⟨by rw [List.length_reverse];exact hz,its.reverse,0,r.reverse,Heap.get?_push_size _ rfl⟩
end
end L2
namespace Ew
open PySem PySem.Spec L2
section
variable {X:Cx}
def drev (f fs:FE):FE:=fun δ=>(f δ).bind fun r=>(fs δ).bind fun s=>match r.view,s with
 | .lst ds,.sh (.int (-1))=>some (.fr ds.reverse)
 | _,_=>none
theorem de_rev {e step:Expr} {f fs:FE} {p2 pos:Pos} (he:DE X e f) (hst:DE X step fs):DE X (.Subscript e (.Slice none none (some step) p2) pos) (drev f fs):=.mk <|
 (pe_rev he.go hst.go).weak fun σ H Q ⟨Hs,δ,r,S,En,e,K⟩=>by
  unfold drev at e
  cases ef:f δ with
  | none=>rw [ef] at e;cases e
  | some rf=>
   cases es:fs δ with
   | none=>rw [ef,es] at e;cases e
   | some rs=>
    rw [ef,es] at e
    refine ⟨Hs,δ,rf,S,En,ef,fun x Hs1 H1 W1 R1=>⟨Hs1,δ,rs,W1.sub,En.mono W1,es,fun y Hs2 H2 W2 R2=>?_⟩⟩
    have vw:=(R1.mono W2).view
    cases hv:rf.view with
    | lst ds=>
     rw [hv] at vw
     match rs,e,R2 with
     | .sh (.int k),e,R2=>
      simp only [Option.bind,hv] at e
      have R2:Rep Hs2 (.int k) y:=R2
      unfold Rep at R2
      by_cases hk:k=-1
      ·
       subst hk
       cases e
       obtain ⟨a,vs,rfl,h1,h2⟩:=vw.lst W2.sub
       have W12:=W1.trans W2
       exact ⟨R2,a,vs,rfl,.of h1,fun p hp=>K _ Hs2 _ (W12.trans (.fresh W2.sub hp)) ⟨p,_,rfl,W12.keep.free hp,W2.sub.free hp,aj,h2.reverse⟩⟩
      ·
       exfalso
       revert e
       split
       ·
        rename_i h1 h2
        simp at h2
        omega
       ·
        intro z;cases z
     | .sh .non,e,_=>simp only [Option.bind,hv] at e;cases e
     | .sh (.bl _),e,_=>simp only [Option.bind,hv] at e;cases e
     | .sh (.str _),e,_=>simp only [Option.bind,hv] at e;cases e
     | .sh (.lst _),e,_=>simp only [Option.bind,hv] at e;cases e
     | .sh (.tup _),e,_=>simp only [Option.bind,hv] at e;cases e
     | .sh (.obj _ _),e,_=>simp only [Option.bind,hv] at e;cases e
     | .fr _,e,_=>simp only [Option.bind,hv] at e;cases e
     | .bw _,e,_=>simp only [Option.bind,hv] at e;cases e
    | _=>simp only [Option.bind,hv] at e;cases e
inductive TyD (K:Frag):D→Value→Prop where
 | non:TyD K .non (.type "NoneType")
 | bl (x:Bool):TyD K (.bl x) (.type "bool")
 | int (i:Int):TyD K (.int i) (.type "int")
 | str (x:Str):TyD K (.str x) (.type "str")
 | lst (xs:List D):TyD K (.lst xs) (.type "list")
 | tup (xs:List D):TyD K (.tup xs) (.type "tuple")
 | obj {C:Addr} (fs:List (Str×D)) (cl:Cls K C) (ha:findIn K (.ref C) "__class__" = some (some (.builtin "object.__class__")))
  (hn:specialIn K (.builtin "object.__class__") "__get__" = some (some (.builtin "getset_descriptor.__get__"))) (htk:takesIn K (.builtin "object.__class__")=some true)
  (hm:mroIn K C (.type "object")=some true):TyD K (.obj C fs) (.ref C)
theorem TyD.of {K:Frag} {Hs H:Hp} {d:D} {t:Value} {v:V} (S:aB Hs H) (ty:TyD K d t) (h:View Hs H d v):gb K H v t:=by
 cases ty with
 | non=>rw [h.non];exact .non
 | bl x=>rw [h.bl];exact .bl x
 | int i=>rw [h.int];exact .int i
 | str x=>rw [h.str];exact .str x
 | lst xs=>obtain ⟨a,vs,rfl,h1,_⟩:=h.lst S;exact .lst h1
 | tup xs=>obtain ⟨a,vs,rfl,h1,_⟩:=h.tup S;exact .tup h1
 | obj fs cl ha hn htk hm=>obtain ⟨a,dx,fvs,rfl,h1,_⟩:=h.obj S;exact .ins h1 cl ha hn htk hm
theorem RelV.fn {x:V} {u v:Value} (hx:(∃ n,x=.ty n)∨∃ a,x=.ref a) (a:RelV x u) (b:RelV x v):u=v:=by
 rcases hx with ⟨n,rfl⟩ | ⟨n,rfl⟩
 ·
  cases (show u=Value.type n from a);cases (show v=Value.type n from b);rfl
 ·
  cases (show u=Value.ref n from a);cases (show v=Value.ref n from b);rfl
theorem c_isinst:bN X (.builtin "isinstance") (fun xs H Q=>∃ x c cu t b,xs=[x,c]∧((∃ n,c=.ty n)∨∃ a,c=.ref a)∧RelV c cu∧gb X.K H x t∧kitOne X.K t cu=some b∧Q (.bl b) H):=by
 intro pins s σ H xs us Q I rv h
 obtain ⟨x,c,cu,t,b,rfl,hc,rc,ty,hk,q⟩:=h
 obtain ⟨u,u2,rfl,ru,ru2⟩:=rv.two
 cases RelV.fn hc rc ru2
 exact isinst_ok I ru ty hk fun tk=>⟨.bl b,H,I.tok tk,rfl,q⟩
def aF (ans:D→Option Bool) (f:FE):FE:=fun δ=>(f δ).bind fun r=>(ans r.view).map fun b=>.sh (.bl b)
theorem dG {e c:Expr} {f:FE} {cv:V} {cu:Value} {ans:D→Option Bool} {p pos:Pos} (he:DE X e f) (hc:PE X c (tC cv)) (hcv:(∃ n,cv=.ty n)∨∃ a,cv=.ref a) (rc:RelV cv cu)
  (hk:∀ d b,ans d=some b→∃ t,TyD X.K d t∧kitOne X.K t cu=some b) (hg:Gl X "isinstance") (hm:X.mg "isinstance" = none)
  (hs:starEach [e,c] X.env=(false,eval e X.env)::starEach [c] X.env:=by rfl) (hs2:starEach [c] X.env=(false,eval c X.env)::starEach [] X.env:=by rfl) (hpl:(backTo pos (starEach [c] X.env)).any (·.1)=false:=by rfl) :
  DE X (.Call (.Name "isinstance" p) [e,c] [] pos) (aF ans f):=.mk <|
 (eN c_isinst hg hm boot_isinstance (a5 he.go (a5 hc cr hs2) hs) (he:=hs) (hpl:=hpl)).weak fun σ H Q ⟨Hs,δ,r,S,En,e,K⟩=>by
  unfold aF at e
  cases ef:f δ with
  | none=>rw [ef] at e;cases e
  | some rf=>
   rw [ef] at e
   replace e:(ans rf.view).map (fun b=>R.sh (.bl b))=some r:=e
   cases ea:ans rf.view with
   | none=>rw [ea] at e;cases e
   | some b=>
    rw [ea] at e
    cases e
    refine ⟨Hs,δ,rf,S,En,ef,fun x Hs1 H1 W1 R1=>?_⟩
    obtain ⟨t,ty,hkk⟩:=hk _ _ ea
    exact ⟨x,cv,cu,t,b,rfl,hcv,rc,ty.of W1.sub R1.view,hkk,K _ Hs1 H1 W1 (shB _ _ _ _)⟩
def jh (i j:Nat) (fa fb:FE):FS:=fun δ=>(fa δ).bind fun r=>(fb δ).bind fun t=>r.ent.bind fun e1=>t.ent.bind fun e2=>some (.nx ((δ.set i (some e1)).set j (some e2)))
theorem ds_par {i j:Nat} {x y:Str} {a b:Expr} {fa fb:FE} {px py pt pos:Pos} {kt k2 pt2} (hc:X.calm=true) (hN:X.N.Nodup) (hi:X.N[i]?=some x) (hj:X.N[j]?=some y) (hij:i≠j)
  (hx:X.env.scope.names.lookup x=some .local) (hy:X.env.scope.names.lookup y=some .local) (ha:DE X a fa) (hb:DE X b fb)
  (hw:swappedStores [.Tuple [.Name x px,.Name y py] kt pt] (.Tuple [a,b] k2 pt2) X.env=pure (some [x,y]))
  (hs:swapsWithSole [.Tuple [.Name x px,.Name y py] kt pt] (.Tuple [a,b] k2 pt2) pos.line X.env=pure false:=by rfl)
  (hs1:starEach [a,b] X.env=(false,eval a X.env)::starEach [b] X.env:=by rfl) (hs2:starEach [b] X.env=(false,eval b X.env)::starEach [] X.env:=by rfl) :
  DS X (.Assign [.Tuple [.Name x px,.Name y py] kt pt] (.Tuple [a,b] k2 pt2) pos) (jh i j fa fb):=.mk fun H0 Hs0=>
 (ps_par hc hN hi hj hij hx hy (a5 ha.go (a5 hb.go cr hs2) hs1) hw hs).weak fun D σ H ⟨Hs,δ,res,W,S,e,P⟩=>by
  unfold jh at e
  cases ea:fa δ with
  | none=>rw [ea] at e;cases e
  | some r=>
   cases eb:fb δ with
   | none=>rw [ea,eb] at e;cases e
   | some t=>
    rw [ea,eb] at e
    replace e:(r.ent.bind fun e1=>t.ent.bind fun e2=>some (Res.nx ((δ.set i (some e1)).set j (some e2))))=some res:=e
    cases er:r.ent with
    | none=>rw [er] at e;cases e
    | some e1=>
     cases et:t.ent with
     | none=>rw [er,et] at e;cases e
     | some e2=>
      rw [er,et] at e
      cases e
      refine ⟨Hs,δ,r,W.sub,S.ent,ea,fun v Hs1 H1 W1 R1=>⟨Hs1,δ,t,W1.sub,S.ent.mono W1,eb,fun u Hs2 H2 W2 R2=>?_⟩⟩
      refine ⟨v,u,rfl,?_⟩
      have W12:=W1.trans W2
      have S2:=S.set (i:=i) W W12 (R1.mono W2) er
      have S3:StR H0 Hs2 H2 ((δ.set i (some e1)).set j (some e2)) ((σ.set i (some v)).set j (some u)):=by
       have R2':cB H1 Hs2 H2 t u:=R2
       cases t with
       | sh d=>
        cases et
        exact S2.set (i:=j) (r:=.sh d) (W.trans W12) (.refl W2.sub) R2 rfl
       | fr ds=>
        cases et
        obtain ⟨p,vs,ep,n1,m,h1,h2⟩:=R2'
        have S1:=S.set (i:=i) W W1 R1 er
        exact S1.set (i:=j) (r:=.fr ds) (W.trans W1) W2 ⟨p,vs,ep,n1,m,h1,h2⟩ rfl
       | bw ds=>cases et
      exact P _ Hs2 H2 (W.trans W12) S3
end
end Ew
end
section
namespace L2
open PySem PySem.Spec PyProof.Rows
section
variable {X:Cx} {a b c d:Expr} {ta tb tc td:TE} {pos:Pos}
def tChain3 (r r' r'':R2) (ta tb tc td:TE):TE:=fun σ H Q=>ta σ H fun x H1=>tb σ H1 fun y H2=>r x y H2 fun z H3=>∃ k,z=.bl k∧
 (if k=true then tc σ H3 fun w H4=>r' y w H4 fun z2 H5=>∃ k2,z2=.bl k2∧(if k2=true then td σ H5 fun w2 H6=>r'' w w2 H6 Q else Q (.bl false) H5) else Q (.bl false) H3)
theorem pe_chain3 {op op' op'':CmpOp} {r r' r'':R2} (ho:OpR X (compareOp op) r) (ho':OpR X (compareOp op') r') (ho'':OpR X (compareOp op'') r'') (ha:PE X a ta) (hb:PE X b tb) (hc:PE X c tc) (hd:PE X d td)
  (hm:lastMarks [op,op',op''] [b,c,d]=false:=by with_unfolding_all rfl):PE X (.Compare a [op,op',op''] [b,c,d] pos) (tChain3 r r' r'' ta tb tc td):=by
 intro pins s σ H Q I h
 refine Compare_chain (thn (ha pins s σ H _ I h) fun v s1 ⟨x,H1,I1,r1,q1⟩=>chain_link (thn (hb pins s1 σ H1 _ I1 q1) fun u s2 ⟨y,H2,I2,r2,q2⟩=>
  thn (ho pins s2 σ H2 x y v u _ I2 r1 r2 q2) fun d s3 ⟨z,H3,I3,r3,k,e,q3⟩=>?_)) hm
 subst e
 cases r3
 refine wpAny_truthy_bool ?_
 cases k with
 | false=>exact ite_ff ⟨.bl false,H3,I3,rfl,q3⟩
 | true=>
  refine ite_tt (chain_link (thn (hc pins s3 σ H3 _ I3 q3) fun w' s4 ⟨z',H4,I4,r4,q4⟩=>thn (ho' pins s4 σ H4 y z' u w' _ I4 r2 r4 q4) fun d2 s5 ⟨z2,H5,I5,r5,k2,e2,q5⟩=>?_))
  subst e2
  cases r5
  refine wpAny_truthy_bool ?_
  cases k2 with
  | false=>exact ite_ff ⟨.bl false,H5,I5,rfl,q5⟩
  | true=>exact ite_tt (chain_last (thn (hd pins s5 σ H5 _ I5 q5) fun w2 s6 ⟨z3,H6,I6,r6,q6⟩=>ho'' pins s6 σ H6 z' z3 w' w2 Q I6 r4 r6 q6))
end
end L2
namespace Ew
open PySem PySem.Spec L2
section
variable {X:Cx} {a b c d:Expr} {fa fb fc fd:FE} {pos:Pos} {o o' o'':D→D→Option R}
def gp (o o' o'':D→D→Option R) (fa fb fc fd:FE):FE:=fun δ=>(fa δ).bind fun a=>(fb δ).bind fun b=>(o a.view b.view).bind fun r=>match r with
 | .sh (.bl true)=>(fc δ).bind fun c=>(o' b.view c.view).bind fun r2=>match r2 with
  | .sh (.bl true)=>(fd δ).bind fun d=>o'' c.view d.view
  | .sh (.bl false)=>some (.sh (.bl false))
  | _=>none
 | .sh (.bl false)=>some (.sh (.bl false))
 | _=>none
theorem tD_chain3 {σ:St} {H:Hp} {Q:VK} (h:tD (gp o o' o'' fa fb fc fd) σ H Q):tChain3 (rD o) (rD o') (rD o'') (tD fa) (tD fb) (tD fc) (tD fd) σ H Q:=by
 obtain ⟨Hs,δ,r,S,En,e,K⟩:=h
 unfold gp at e
 cases ea:fa δ with
 | none=>simp only [ea] at e;cases e
 | some ra=>
  cases eb:fb δ with
  | none=>simp only [ea,eb] at e;cases e
  | some rb=>
   cases eo:o ra.view rb.view with
   | none=>simp only [ea,eb,eo,Option.bind] at e;cases e
   | some ro=>
    simp only [ea,eb,eo,Option.bind] at e
    refine ⟨Hs,δ,ra,S,En,ea,fun x Hs1 H1 W1 R1=>⟨Hs1,δ,rb,W1.sub,En.mono W1,eb,fun y Hs2 H2 W2 R2=>?_⟩⟩
    refine ⟨Hs2,ra.view,rb.view,ro,W2.sub,(R1.mono W2).view,R2.view,eo,fun v Hs3 H3 W3 R3=>?_⟩
    have W13:=W1.trans (W2.trans W3)
    match ro,e,R3 with
    | .sh (.bl false),e,R3=>
     cases e
     refine ⟨false,unB R3,?_⟩
     rw [if_neg Bool.false_ne_true]
     exact K _ Hs3 H3 W13 (shB _ _ _ _)
    | .sh (.bl true),e,R3=>
     refine ⟨true,unB R3,?_⟩
     rw [if_pos rfl]
     cases ec:fc δ with
     | none=>simp only [ec] at e;cases e
     | some rc=>
      cases eo2:o' rb.view rc.view with
      | none=>simp only [ec,eo2] at e;cases e
      | some ro2=>
       simp only [ec,eo2] at e
       refine ⟨Hs3,δ,rc,W3.sub,En.mono W13,ec,fun z Hs4 H4 W4 R4=>?_⟩
       refine ⟨Hs4,rb.view,rc.view,ro2,W4.sub,((R2.mono W3).mono W4).view,R4.view,eo2,fun v2 Hs5 H5 W5 R5=>?_⟩
       have W15:=W13.trans (W4.trans W5)
       match ro2,e,R5 with
       | .sh (.bl false),e,R5=>
        cases e
        refine ⟨false,unB R5,?_⟩
        rw [if_neg Bool.false_ne_true]
        exact K _ Hs5 H5 W15 (shB _ _ _ _)
       | .sh (.bl true),e,R5=>
        refine ⟨true,unB R5,?_⟩
        rw [if_pos rfl]
        cases ed:fd δ with
        | none=>simp only [ed] at e;cases e
        | some rd=>
         simp only [ed] at e
         refine ⟨Hs5,δ,rd,W5.sub,En.mono W15,ed,fun z2 Hs6 H6 W6 R6=>?_⟩
         refine ⟨Hs6,rc.view,rd.view,r,W6.sub,((R4.mono W5).mono W6).view,R6.view,e,fun v3 Hs7 H7 W7 R7=>?_⟩
         exact K v3 Hs7 H7 (W15.trans (W6.trans W7)) (R7.older (W15.keep.trans W6.keep))
theorem de_chain3 {op op' op'':CmpOp} (ho:OpR X (compareOp op) (rD o)) (ho':OpR X (compareOp op') (rD o')) (ho'':OpR X (compareOp op'') (rD o'')) (ha:DE X a fa) (hb:DE X b fb) (hc:DE X c fc) (hd:DE X d fd)
 (hm:lastMarks [op,op',op''] [b,c,d]=false:=by with_unfolding_all rfl):DE X (.Compare a [op,op',op''] [b,c,d] pos) (gp o o' o'' fa fb fc fd):=.mk <| (pe_chain3 ho ho' ho'' ha.go hb.go hc.go hd.go hm).weak fun _ _ _=>tD_chain3
end
end Ew
end
section
namespace Ew
open PySem PySem.Spec L2
structure Df (K:Frag) (mg:Str→Option Value) (x qual:Str) (st:Stmt) (ps:List Str) (f:Addr) (fd:FuncData):Prop where
 fn:Fun K x qual st f fd
 mgx:mg x=some (.ref f)
 bd:Binds K fd ps []
section
variable {X:Cx} {e:Expr} {es:List Expr} {fr:DSt→Option (List R)} {x:Str} {p pos:Pos} {id T:String}
theorem de_u {qual:Str} {st:Stmt} {ps:List Str} {f:Addr} {fd:FuncData} {k n:Nat} {m:List D→Option D} (d:Df X.K X.mg x qual st ps f fd) (G:bO X.prog X.w X.K X.mg X.base CX0 k f fd ps (spD n m)) (hr:aQ k X.A) (ha:DA X (e::es) fr)
 (hg:Gl X x:=by rfl) (hdb:(x==("__debug__" : Str))=false:=by decide) (he:starEach (e::es) X.env=(false,eval e X.env)::starEach es X.env:=by exact aE rfl) (hpl:(backTo pos (starEach es X.env)).any (·.1)=false:=by rfl) :
 DE X (.Call (.Name x p) (e::es) [] pos) (aq n m fr):=.mk <| (ia (E:=E0) G hr hg d.mgx d.fn.kp d.bd .nil iv ha.go hdb he hpl).weak fun _ _ _=>tD_call
theorem de_m {C:Addr} {n:Nat} {m:List D→Option D} {fo:FE} (h:PE X e (tMeth C x (spD n m) [] E0 (tD fo) (tDA fr))):DE X e (ez C x n m fo fr):=.mk <| h.weak fun _ _ _=>tD_meth
theorem de_m0 {C:Addr} {n:Nat} {m:List D→Option D} {fo:FE} (h:PE X e (tMeth C x (spD n m) [] E0 (tD fo) tNil)):DE X e (ez C x n m fo ah):=.mk <| h.weak fun σ H Q hq=>by
 obtain ⟨Hs,δ,r,S,En,e,K⟩:=tD_meth (E:=E0) hq
 refine ⟨Hs,δ,r,S,En,e,fun x0 Hs1 H1 W1 R1=>?_⟩
 obtain ⟨a,dx,fs,e1,h1,h2,Hs2,δ2,rs,S2,En2,e2,K2⟩:=K x0 Hs1 H1 W1 R1
 refine ⟨a,dx,fs,e1,h1,h2,?_⟩
 cases e2
 exact K2 [] Hs2 H1 (.refl S2) rfl
theorem de_b1 {o:D→Option R} (hc:bN X (.builtin id) (rC1 o)) (hv:bootBuiltins x=some (.builtin id)) (hm:X.mg x=none) (ha:DA X [e] fr) (hg:Gl X x:=by rfl) (hn:x≠"__name__":=by decide) (hdb:(x==("__debug__" : Str))=false:=by decide)
 (he:starEach [e] X.env=(false,eval e X.env)::starEach [] X.env:=by rfl):DE X (.Call (.Name x p) [e] [] pos) (ao o fr):=.mk <| (eN hc hg hm hv ha.go hn hdb he rfl).weak fun _ _ _=>km
theorem iD {e2:Expr} {o:D→D→Option R} (hc:bN X (.builtin id) (rC2 o)) (hv:bootBuiltins x=some (.builtin id)) (hm:X.mg x=none) (ha:DA X [e,e2] fr) (hg:Gl X x:=by rfl) (hn:x≠"__name__":=by decide) (hdb:(x==("__debug__" : Str))=false:=by decide)
 (he:starEach [e,e2] X.env=(false,eval e X.env)::starEach [e2] X.env:=by rfl) (hpl:(backTo pos (starEach [e2] X.env)).any (·.1)=false:=by rfl):DE X (.Call (.Name x p) [e,e2] [] pos) (ba o fr):=.mk <| (eN hc hg hm hv ha.go hn hdb he hpl).weak fun _ _ _=>tD_call2
theorem eA {o:D→Option R} (hc:bN X (.type T) (rC1 o)) (hv:bootBuiltins x=some (.type T)) (hm:X.mg x=none) (ha:DA X [e] fr) (hg:Gl X x:=by rfl) (hn:x≠"__name__":=by decide) (hdb:(x==("__debug__" : Str))=false:=by decide)
 (he:starEach [e] X.env=(false,eval e X.env)::starEach [] X.env:=by rfl):DE X (.Call (.Name x p) [e] [] pos) (ao o fr):=.mk <| (pe_callTy hc hg hm hv ha.go hn hdb he rfl).weak fun _ _ _=>km
end
def isC (C:Addr):Addr→Bool:=fun a=>a==C
theorem isC_of {C a:Addr} (h:isC C a=true):a=C:=by unfold isC at h;simpa using h
end Ew
namespace Ew
def jQ:D→Option Bool
 | .int _=>some true
 | .bl _=>some true
 | .obj _ _=>none
 | _=>some false
def is_bool:D→Option Bool
 | .bl _=>some true
 | .obj _ _=>none
 | _=>some false
def dW:D→Option Bool
 | .str _=>some true
 | .obj _ _=>none
 | _=>some false
def cL:D→Option Bool
 | .lst _=>some true
 | .obj _ _=>none
 | _=>some false
def cC:D→Option Bool
 | .tup _=>some true
 | .obj _ _=>none
 | _=>some false
end Ew
end
section
namespace Ew
open PySem PySem.Spec L2
section
variable {δ:DSt} {fa fb fc f:FE} {fr:DSt→Option (List R)} {t u:DSt→Option Bool} {F G:FS}
@[simp] theorem dvar_e (i:Nat):ad i δ=match δ[i]? with
 | some (some (.sh d))=>some (.sh d)
 | some (some (.ow ds))=>some (.bw ds)
 | _=>none:=rfl
@[simp] theorem dcon_e (d:D):ac d δ=some (.sh d):=rfl
@[simp] theorem dbin_e (o:D→D→Option R):af o fa fb δ=(fa δ).bind fun a=>(fb δ).bind fun b=>o a.view b.view:=rfl
@[simp] theorem dun_e (o:D→Option R):dun o fa δ=(fa δ).bind fun a=>o a.view:=rfl
@[simp] theorem fv:ap f δ=(f δ).bind R.bool:=rfl
@[simp] theorem dchain_e (o o':D→D→Option R):cH o o' fa fb fc δ=(fa δ).bind fun a=>(fb δ).bind fun b=>(o a.view b.view).bind fun r=>match r with
 | .sh (.bl true)=>(fc δ).bind fun c=>o' b.view c.view
 | .sh (.bl false)=>some (.sh (.bl false))
 | _=>none:=rfl
@[simp] theorem dchain3_e {fd:FE} (o o' o'':D→D→Option R):gp o o' o'' fa fb fc fd δ=(fa δ).bind fun a=>(fb δ).bind fun b=>(o a.view b.view).bind fun r=>match r with
 | .sh (.bl true)=>(fc δ).bind fun c=>(o' b.view c.view).bind fun r2=>match r2 with
  | .sh (.bl true)=>(fd δ).bind fun d=>o'' c.view d.view
  | .sh (.bl false)=>some (.sh (.bl false))
  | _=>none
 | .sh (.bl false)=>some (.sh (.bl false))
 | _=>none:=rfl
@[simp] theorem dtAnd_e:gg t u δ=(t δ).bind fun c=>if c=true then u δ else some false:=rfl
@[simp] theorem gJ:cI t u δ=(t δ).bind fun c=>if c=true then some true else u δ:=rfl
@[simp] theorem jR:be t δ=(t δ).map (!·):=rfl
@[simp] theorem dand_e:dand fa fb δ=(fa δ).bind fun r=>match r with
 | .sh (.bl true)=>fb δ
 | .sh (.bl false)=>some (.sh (.bl false))
 | _=>none:=rfl
@[simp] theorem dor_e:dor fa fb δ=(fa δ).bind fun r=>match r with
 | .sh (.bl true)=>some (.sh (.bl true))
 | .sh (.bl false)=>fb δ
 | _=>none:=rfl
@[simp] theorem dnot_e:dnot fa δ=(fa δ).bind fun r=>match r with
 | .sh (.bl b)=>some (.sh (.bl (!b)))
 | _=>none:=rfl
@[simp] theorem dif_e:dif t fa fb δ=(t δ).bind fun k=>if k=true then fa δ else fb δ:=rfl
@[simp] theorem gK:ah δ=some []:=rfl
@[simp] theorem aK:aa fa fr δ=(fa δ).bind fun r=>(fr δ).bind fun rs=>some (r::rs):=rfl
@[simp] theorem jS:bz fr δ=(fr δ).bind fun rs=>if bD rs=true∧rs.length≤big then some (.fr (rs.map R.view)) else none:=rfl
@[simp] theorem dtup_e:ck fr δ=(fr δ).bind fun rs=>if bD rs=true∧rs.length≤big then some (.sh (.tup (rs.map R.view))) else none:=rfl
@[simp] theorem ij (n:Nat) (m:List D→Option D):aq n m fr δ=(fr δ).bind (gi n m):=rfl
@[simp] theorem dcallF_e (n:Nat) (m:List D→Option (List D)):dcallF n m fr δ=(fr δ).bind (mcallF n m):=rfl
@[simp] theorem ik (n:Nat) (m:List D→Option D) (rs:List R):gi n m rs=(m (rs.map R.view)).bind fun d=>if rs.length=n∧(bD rs=true∨d.flat=true) then some (.sh d) else none:=rfl
@[simp] theorem mcallF_e (n:Nat) (m:List D→Option (List D)) (rs:List R):mcallF n m rs=(m (rs.map R.view)).bind fun d=>if rs.length=n∧bD rs=true then some (.fr d) else none:=rfl
@[simp] theorem dfld_e (ok:Addr→Bool) (x:Str):dfld ok x fa δ=(fa δ).bind fun r=>match r.view with
 | .obj C fs=>if ok C=true then (fs.lookup x).map .sh else none
 | _=>none:=rfl
@[simp] theorem dmeth_e (C:Addr) (name:Str) (n:Nat) (m:List D→Option D):ez C name n m fa fr δ=(fa δ).bind fun r=>match r.view with
 | .obj C' fs=>if C'=C∧fs.lookup name=none then (fr δ).bind fun rs=>gi n m (r::rs) else none
 | _=>none:=rfl
@[simp] theorem bS (o:D→Option R):ao o fr δ=(fr δ).bind fun rs=>match rs with
 | [r]=>o r.view
 | _=>none:=rfl
@[simp] theorem dcall2_e (o:D→D→Option R):ba o fr δ=(fr δ).bind fun rs=>match rs with
 | [r,s]=>o r.view s.view
 | _=>none:=rfl
@[simp] theorem view_sh (d:D):(R.sh d).view=d:=rfl
@[simp] theorem view_fr (ds:List D):(R.fr ds).view=.lst ds:=rfl
@[simp] theorem view_bw (ds:List D):(R.bw ds).view=.lst ds:=rfl
@[simp] theorem isBw_sh (d:D):(R.sh d).isBw=false:=rfl
@[simp] theorem isBw_fr (ds:List D):(R.fr ds).isBw=false:=rfl
@[simp] theorem isBw_bw (ds:List D):(R.bw ds).isBw=true:=rfl
@[simp] theorem bool_bl (b:Bool):(R.sh (.bl b)).bool=some b:=rfl
@[simp] theorem ent_sh (d:D):(R.sh d).ent=some (.sh d):=rfl
@[simp] theorem ent_fr (ds:List D):(R.fr ds).ent=some (.ow ds):=rfl
@[simp] theorem noBw_nil:bD []=true:=rfl
@[simp] theorem noBw_cons (r:R) (rs:List R):bD (r::rs)=(!r.isBw&&bD rs):=rfl
@[simp] theorem flat_bl (b:Bool):(D.bl b).flat=true:=rfl
@[simp] theorem flat_int (b:Int):(D.int b).flat=true:=rfl
@[simp] theorem flat_non:D.non.flat=true:=rfl
@[simp] theorem sret_e:bH f δ=(f δ).bind fun r=>if r.isBw=true then none else some (.rt r):=rfl
@[simp] theorem sretv_e (i:Nat):sretv i δ=match δ[i]? with
 | some (some (.ow ds))=>some (.rt (.fr ds))
 | some (some (.sh d))=>some (.rt (.sh d))
 | some (some (.nw d))=>some (.rn d)
 | _=>none:=rfl
@[simp] theorem dH:sif t F G δ=(t δ).bind fun b=>if b=true then F δ else G δ:=rfl
@[simp] theorem iE:aL F G δ=(F δ).bind (Res.thn G):=rfl
@[simp] theorem thn_nx (δ:DSt):Res.thn G (.nx δ)=G δ:=rfl
@[simp] theorem thn_rt (r:R):Res.thn G (.rt r)=some (.rt r):=rfl
@[simp] theorem thn_rn (d:D):Res.thn G (.rn d)=some (.rn d):=rfl
@[simp] theorem sskip_e:aN δ=some (.nx δ):=rfl
@[simp] theorem sset_e (i:Nat):sset i f δ=(f δ).bind fun r=>r.ent.bind fun en=>some (.nx (δ.set i (some en))):=rfl
@[simp] theorem sfrz_e (i:Nat):sfrz i F δ=F (frz i δ):=rfl
@[simp] theorem run_e (k:Nat) (F:FS) (ds:List D):Ew.run k F ds=match F (ds.map (fun d=>some (.sh d))++List.replicate (k-ds.length) none) with
 | some (.rt r)=>if r.isBw=true then none else some r.view
 | some (.nx _)=>some .non
 | some (.rn d)=>some d
 | _=>none:=rfl
@[simp] theorem isC_self (a:Addr):isC a a=true:=by unfold isC;simp
@[simp] theorem oAdd_ii (i j:Int):aC (.int i) (.int j)=some (.sh (.int (i+j))):=rfl
@[simp] theorem oSub_ii (i j:Int):oSub (.int i) (.int j)=some (.sh (.int (i-j))):=rfl
@[simp] theorem oLt_ii (i j:Int):oLt (.int i) (.int j)=some (.sh (.bl (decide (i<j)))):=rfl
@[simp] theorem oLe_ii (i j:Int):oLe (.int i) (.int j)=some (.sh (.bl (decide (i≤j)))):=rfl
@[simp] theorem oGt_ii (i j:Int):oGt (.int i) (.int j)=some (.sh (.bl (decide (j<i)))):=rfl
@[simp] theorem oGe_ii (i j:Int):oGe (.int i) (.int j)=some (.sh (.bl (decide (j≤i)))):=rfl
@[simp] theorem oLen_l (xs:List D):bK (.lst xs)=some (.sh (.int xs.length)):=rfl
@[simp] theorem oList_l (xs:List D):oList (.lst xs)=some (.fr xs):=rfl
@[simp] theorem oList_t (xs:List D):oList (.tup xs)=some (.fr xs):=rfl
@[simp] theorem oMin2_ii (i j:Int):dF (.int i) (.int j)=some (.sh (.int (if j<i then j else i))):=rfl
@[simp] theorem oMax2_ii (i j:Int):fH (.int i) (.int j)=some (.sh (.int (if j>i then j else i))):=rfl
@[simp] theorem oIx_l (xs:List D) (i:Int):oIx (.lst xs) (.int i)=(atI xs i).map .sh:=rfl
@[simp] theorem oIx_t (xs:List D) (i:Int):oIx (.tup xs) (.int i)=(atI xs i).map .sh:=rfl
@[simp] theorem dcomp_e (fi:DSt→Option (List D)) (g:GD) (c:DSt→Option Bool) (fe:FE) (m:Nat) (ix:List Nat):bI fi g c fe m ix δ=(fi δ).bind fun items=>if items.length≤big then (bQ g c fe (dIn m ix δ) items).map .fr else none:=rfl
@[simp] theorem gq:bb f δ=(f δ).bind fun r=>if r.isBw=true then none else match r.view with
 | .lst ds=>some ds
 | _=>none:=rfl
@[simp] theorem cyes_e:cn δ=some true:=rfl
theorem da (g:GD) (c:DSt→Option Bool) (fe:FE) (δ:DSt) {α:Type} (enc:α→D) (p:α→Bool) (out:α→D) (xs:List α)
  (h:∀ x∈xs,∃ δ1,g (enc x) δ=some δ1∧c δ1=some (p x)∧(p x=true→∃ r,fe δ1=some r∧r.isBw=false∧r.view=out x)) :
  bQ g c fe δ (xs.map enc)=some ((xs.filter p).map out):=by
 induction xs with
 | nil=>rfl
 | cons x xs ih=>
  obtain ⟨δ1,h1,h2,h3⟩:=h x List.mem_cons_self
  have ih:=ih fun y hy=>h y (List.mem_cons_of_mem _ hy)
  rw [List.map_cons]
  unfold bQ
  rw [h1]
  show ((c δ1).bind fun b=>if b=true then (fe δ1).bind fun r1=>if r1.isBw=true then none else (bQ g c fe δ (xs.map enc)).bind fun t=>some (r1.view::t) else bQ g c fe δ (xs.map enc))=_
  rw [h2]
  show (if p x=true then (fe δ1).bind fun r1=>if r1.isBw=true then none else (bQ g c fe δ (xs.map enc)).bind fun t=>some (r1.view::t) else bQ g c fe δ (xs.map enc))=_
  by_cases hp:p x=true
  ·
   obtain ⟨r,e1,e2,e3⟩:=h3 hp
   rw [if_pos hp,e1,ih]
   simp [e2,e3,hp,List.filter_cons]
  ·
   rw [if_neg hp,ih]
   simp [hp,List.filter_cons]
theorem db (i:Int):okD (.int i)=true:=by unfold okD;simp [D.plain,D.py,PyData.canLay0,PyData.depth]
theorem il (i j:Int):eqP (.int i) (.int j)=decide (i=j):=by unfold eqP;simp [D.py,PyData.eqv];rfl
@[simp] theorem oEq_ii (i j:Int):oEq (.int i) (.int j)=some (.sh (.bl (decide (i=j)))):=by unfold oEq;rw [if_pos ⟨db i,db j⟩,il]
@[simp] theorem oNe_ii (i j:Int):oNe (.int i) (.int j)=some (.sh (.bl (!decide (i=j)))):=by unfold oNe;rw [if_pos ⟨db i,db j⟩,il]
theorem ku (ns:List Int):pys (ns.map .int)=ns.map PyData.int:=by rw [dR,List.map_map];rfl
theorem fQ:∀ ds:List D,eQ ds=ds.all D.plain
 | []=>by unfold eQ;rfl
 | d::ds=>by unfold eQ;rw [fQ ds];rfl
theorem dA:∀ ds:List PyData,PyData.canLayAll0 ds=ds.all PyData.canLay0
 | []=>by unfold PyData.canLayAll0;rfl
 | d::ds=>by unfold PyData.canLayAll0;rw [dA ds];rfl
theorem eT {k:Nat}:∀ {ds:List PyData},(∀ d∈ds,d.depth≤k)→PyData.depthAll ds≤k
 | [],_=>by unfold PyData.depthAll;exact Nat.zero_le _
 | d::ds,h=>by
  unfold PyData.depthAll
  exact Nat.max_le.mpr ⟨h d List.mem_cons_self,eT fun e he=>h e (List.mem_cons_of_mem _ he)⟩
theorem iF {ds:List D} (h:∀ d∈ds,d.plain=true∧d.py.canLay0=true∧d.py.depth≤15):okD (.lst ds)=true:=by
 unfold okD
 rw [Bool.and_eq_true,Bool.and_eq_true]
 refine ⟨?_,?_,?_⟩
 ·
  unfold D.plain;rw [fQ];exact List.all_eq_true.mpr fun d hd=>(h d hd).1
 ·
  unfold D.py PyData.canLay0;rw [dA,dR];exact List.all_eq_true.mpr fun d hd=>by
   obtain ⟨e,he,rfl⟩:=List.mem_map.mp hd
   exact (h e he).2.1
 ·
  unfold D.py PyData.depth
  refine decide_eq_true ?_
  have:=eT (k:=15) (ds:=pys ds) fun d hd=>by
   rw [dR] at hd
   obtain ⟨e,he,rfl⟩:=List.mem_map.mp hd
   exact (h e he).2.2
  omega
theorem gr (ns:List Int):okD (.lst (ns.map .int))=true:=iF fun d hd=>by
 obtain ⟨i,_,rfl⟩:=List.mem_map.mp hd
 obtain ⟨a,b,c⟩:=bf (db i)
 exact ⟨a,b,by unfold D.py PyData.depth;omega⟩
theorem gY:∀ (ns ms:List Int),PyData.eqvAll (ns.map PyData.int) (ms.map PyData.int)=decide (ns=ms)
 | [],[]=>by simp [PyData.eqvAll]
 | [],_::_=>by simp [PyData.eqvAll]
 | _::_,[]=>by simp [PyData.eqvAll]
 | n::ns,m::ms=>by
  simp only [List.map_cons,PyData.eqvAll,PyData.eqv,gY ns ms]
  by_cases h:n=m
  ·
   subst h;simp
  ·
   simp [h]
@[simp] theorem oEq_ints (ns ms:List Int):oEq (.lst (ns.map .int)) (.lst (ms.map .int))=some (.sh (.bl (decide (ns=ms)))):=by
 unfold oEq
 rw [if_pos ⟨gr ns,gr ms⟩]
 unfold eqP D.py PyData.eqv
 rw [ku,ku,gY]
theorem any_int (i:Int) (ns:List Int):((ns.map D.int).any fun y=>eqP y (.int i))=ns.contains i:=by
 rw [List.any_map,List.contains_eq_any_beq]
 congr 1
 funext y
 show eqP (.int y) (.int i)=(i==y)
 rw [il,Bool.beq_eq_decide_eq]
 exact decide_eq_decide.mpr ⟨Eq.symm,Eq.symm⟩
@[simp] theorem oIn_ints (i:Int) (ns:List Int):oIn (.int i) (.lst (ns.map .int))=some (.sh (.bl (ns.contains i))):=by
 show (if okD (D.int i)=true∧okD (D.lst (List.map D.int ns))=true then some (R.sh (D.bl ((ns.map D.int).any fun y=>eqP y (D.int i)))) else none)=_
 rw [if_pos ⟨db i,gr ns⟩,any_int]
@[simp] theorem oNotIn_ints (i:Int) (ns:List Int):cQ (.int i) (.lst (ns.map .int))=some (.sh (.bl (!ns.contains i))):=by
 show (if okD (D.int i)=true∧okD (D.lst (List.map D.int ns))=true then some (R.sh (D.bl (!(ns.map D.int).any fun y=>eqP y (D.int i)))) else none)=_
 rw [if_pos ⟨db i,gr ns⟩,any_int]
end
def tN (f:DSt→Option D):TE:=fun σ H Q=>∃ Hs δ d,aB Hs H∧cG Hs H δ σ∧f δ=some d∧∀ v Hs' H' L,Wd H Hs Hs' H'→Own H' d v L→(∀ a∈L,H a=none∧Hs' a=none)→Q v H'
structure DN (X:Cx) (e:Expr) (f:DSt→Option D):Prop where
 go:PE X e (tN f)
def tNA (f:DSt→Option (List D)):TA:=fun σ H Q=>∃ Hs δ ds,aB Hs H∧cG Hs H δ σ∧f δ=some ds∧∀ vs Hs' H' L,Wd H Hs Hs' H'→aI H' ds vs L→(∀ a∈L,H a=none∧Hs' a=none)→Q vs H'
structure DNA (X:Cx) (es:List Expr) (f:DSt→Option (List D)):Prop where
 go:PA X es (tNA f)
abbrev FN:=DSt→Option D
theorem Own.flat {H Hs:Hp} {d:D} {v:V} (hf:d.flat=true) (h:Rep Hs d v):Own H d v []:=by
 cases d with
 | lst _=>cases hf
 | tup _=>cases hf
 | obj _ _=>cases hf
 | _=>unfold Rep at h;unfold Own;exact ⟨h,rfl⟩
theorem aI.flat {H Hs:Hp}:∀ {ds:List D} {vs:List V},(ds.all D.flat)=true→av Hs ds vs→aI H ds vs []
 | [],_,_,h=>by unfold av at h;unfold aI;exact ⟨h,rfl⟩
 | d::ds,_,hf,h=>by
  unfold av at h
  obtain ⟨v,r,e,h1,h2⟩:=h
  rw [List.all_cons,Bool.and_eq_true] at hf
  unfold aI
  exact ⟨v,r,[],[],e,Own.flat hf.1 h1,aI.flat hf.2 h2,fun _ z=>(by cases z),rfl⟩
theorem aI.length {H:Hp}:∀ {ds:List D} {vs:List V} {L:List Addr},aI H ds vs L→vs.length=ds.length
 | [],_,_,h=>by unfold aI at h;rw [h.1];rfl
 | d::ds,_,_,h=>by
  unfold aI at h
  obtain ⟨v,r,M,N,e,h1,h2,_⟩:=h
  rw [e];simp [aI.length h2]
def R.toN:R→Option D
 | .sh d=>if d.flat=true then some d else none
 | .fr ds=>if ds.all D.flat=true then some (.lst ds) else none
 | .bw _=>none
def gZ (f:FE):FN:=fun δ=>(f δ).bind R.toN
section
variable {X:Cx} {e a b c:Expr} {es:List Expr} {f:FE} {g h:FN} {gs:DSt→Option (List D)} {fr:DSt→Option (List R)} {pos:Pos} {n:Nat} {m:List D→Option D} {E:XK}
theorem cB.toN {H0 Hs H:Hp} {r:R} {v:V} {d:D} (h:cB H0 Hs H r v) (e:r.toN=some d):∃ L,Own H d v L∧∀ a∈L,H0 a=none∧Hs a=none:=by
 cases r with
 | sh d'=>
  replace e:(if d'.flat=true then some d' else none)=some d:=e
  by_cases hf:d'.flat=true
  ·
   rw [if_pos hf] at e;cases e
   exact ⟨[],Own.flat hf h,fun _ z=>by cases z⟩
  ·
   rw [if_neg hf] at e;cases e
 | fr ds=>
  replace e:(if ds.all D.flat=true then some (D.lst ds) else none)=some d:=e
  by_cases hf:ds.all D.flat=true
  ·
   rw [if_pos hf] at e;cases e
   obtain ⟨a,vs,e1,n1,m1,h1,h2⟩:=h
   refine ⟨[a],?_,fun b hb=>?_⟩
   ·
    unfold Own
    exact ⟨a,vs,[],e1,h1,aI.flat hf h2,fun z=>(by cases z),rfl⟩
   ·
    rcases List.mem_cons.mp hb with rfl | hb
    ·
     exact ⟨n1,m1⟩
    ·
     cases hb
  ·
   rw [if_neg hf] at e;cases e
 | bw ds=>cases e
theorem jT (h:DE X e f):DN X e (gZ f):=.mk <| h.go.weak fun σ H Q ⟨Hs,δ,d,S,En,e,K⟩=>by
 unfold gZ at e
 cases ef:f δ with
 | none=>rw [ef] at e;cases e
 | some r=>
  rw [ef] at e
  refine ⟨Hs,δ,r,S,En,ef,fun v Hs1 H1 W1 R1=>?_⟩
  obtain ⟨L,o,n⟩:=R1.toN e
  exact K v Hs1 H1 L W1 o n
def dnw (g:FN):FE:=fun δ=>(g δ).map .sh
theorem de_dn (h:DN X e g):DE X e (dnw g):=.mk <| h.go.weak fun σ H Q ⟨Hs,δ,r,S,En,e,K⟩=>by
 unfold dnw at e
 cases ef:g δ with
 | none=>rw [ef] at e;cases e
 | some d=>
  rw [ef] at e;cases e
  refine ⟨Hs,δ,d,S,En,ef,fun v Hs1 H1 L W1 o n=>?_⟩
  obtain ⟨Hs2,q,s1,s2,s3⟩:=o.share W1.sub fun a ha=>(n a ha).2
  exact K v Hs2 H1 ⟨W1.keep,s1,W1.base.trans s2,fun a o e=>(s3 a o e).elim (W1.new a o) fun z=>.inr (n a z).1⟩ q
def nanil:DSt→Option (List D):=fun _=>some []
def fR (g:FN) (gs:DSt→Option (List D)):DSt→Option (List D):=fun δ=>(g δ).bind fun d=>(gs δ).bind fun ds=>some (d::ds)
theorem dna_nil:DNA X [] nanil:=.mk <| cr.weak fun σ H Q ⟨Hs,δ,r,S,En,e,K⟩=>by
 cases e
 exact K [] Hs H [] (.refl S) (by unfold aI;exact ⟨rfl,rfl⟩) fun _ z=>by cases z
theorem kv (ha:DN X e g) (hr:DNA X es gs) (hs:starEach (e::es) X.env=(false,eval e X.env)::starEach es X.env:=by exact aE rfl):DNA X (e::es) (fR g gs):=
 .mk <| (a5 ha.go hr.go hs).weak fun σ H Q ⟨Hs,δ,r,S,En,e,K⟩=>by
  unfold fR at e
  cases ea:g δ with
  | none=>rw [ea] at e;cases e
  | some d=>
   cases eb:gs δ with
   | none=>rw [ea,eb] at e;cases e
   | some ds=>
    rw [ea,eb] at e
    cases e
    refine ⟨Hs,δ,d,S,En,ea,fun x Hs1 H1 L1 W1 O1 n1=>⟨Hs1,δ,ds,W1.sub,En.mono W1,eb,fun vs Hs2 H2 L2 W2 O2 n2=>?_⟩⟩
    refine K (x::vs) Hs2 H2 (L1++L2) (W1.trans W2) ?_ fun a ha=>?_
    ·
     unfold aI
     refine ⟨x,vs,L1,L2,rfl,O1.mono W2.keep,O2,fun a h1 h2=>?_,rfl⟩
     obtain ⟨o,ho⟩:=Own.cell _ O1 a h1
     rw [(n2 a h2).1] at ho;cases ho
    ·
     rcases List.mem_append.mp ha with h1 | h2
     ·
      obtain ⟨o,ho⟩:=Own.cell _ O1 a h1
      exact ⟨(n1 a h1).1,W2.stay ho (n1 a h1).2⟩
     ·
      exact ⟨W1.keep.free (n2 a h2).1,(n2 a h2).2⟩
def ntup (gs:DSt→Option (List D)):FN:=fun δ=>(gs δ).bind fun ds=>if ds.length≤big then some (.tup ds) else none
def nlst (gs:DSt→Option (List D)):FN:=fun δ=>(gs δ).bind fun ds=>if ds.length≤big then some (.lst ds) else none
theorem dn_tup {x1} (h:DNA X es gs):DN X (.Tuple es x1 pos) (ntup gs):=.mk <| (pe_tup h.go).weak fun σ H Q ⟨Hs,δ,r,S,En,e,K⟩=>by
 unfold ntup at e
 cases ea:gs δ with
 | none=>rw [ea] at e;cases e
 | some ds=>
  rw [ea] at e
  replace e:(if ds.length≤big then some (D.tup ds) else none)=some r:=e
  by_cases hc:ds.length≤big
  ·
   rw [if_pos hc] at e
   cases e
   refine ⟨Hs,δ,ds,S,En,ea,fun vs Hs1 H1 L W1 O n=>⟨?_,fun p hp=>?_⟩⟩
   ·
    rw [O.length];exact Nat.le_of_lt (bF hc)
   ·
    have np:p∉L:=fun z=>by
     obtain ⟨o,ho⟩:=aI.cell _ O p z
     rw [hp] at ho;cases ho
    refine K _ Hs1 _ (p::L) (W1.trans (.fresh W1.sub hp)) ?_ fun a ha=>?_
    ·
     unfold Own
     exact ⟨p,vs,L,rfl,aj,O.mono (.new hp),np,rfl⟩
    ·
     rcases List.mem_cons.mp ha with rfl | ha
     ·
      exact ⟨W1.keep.free hp,W1.sub.free hp⟩
     ·
      exact n a ha
  ·
   rw [if_neg hc] at e;cases e
def nif (t:DSt→Option Bool) (g h:FN):FN:=fun δ=>(t δ).bind fun k=>if k=true then g δ else h δ
end
def spN (n:Nat) (m:List D→Option D):Sp:=fun vs H Q _=>∃ Hs ds d,ds.length=n∧aB Hs H∧av Hs ds vs∧m ds=some d∧∀ v Hs' H' L,Wd H Hs Hs' H'→Own H' d v L→(∀ a∈L,H a=none∧Hs' a=none)→Q v H'
theorem spN_len {n:Nat} {m:List D→Option D} {vs:List V} {H:Hp} {Q:VK} {E:XK} (h:spN n m vs H Q E):vs.length=n:=by
 obtain ⟨Hs,ds,d,e,_,r,_⟩:=h
 rw [r.length,e]
def g8 (n:Nat) (m:List D→Option D) (fa:DSt→Option (List R)):FN:=fun δ=>(fa δ).bind fun rs=>if rs.length=n∧bD rs=true then m (rs.map R.view) else none
theorem tN_call {n:Nat} {m:List D→Option D} {fr:DSt→Option (List R)} {E:XK} {σ:St} {H:Hp} {Q:VK} (h:tN (g8 n m fr) σ H Q):tCall (spN n m) [] E (tDA fr) σ H Q:=by
 obtain ⟨Hs,δ,r,S,En,e,K⟩:=h
 unfold g8 at e
 cases ea:fr δ with
 | none=>rw [ea] at e;cases e
 | some rs=>
  rw [ea] at e
  refine ⟨Hs,δ,rs,S,En,ea,fun vs Hs1 H1 W1 R1=>?_⟩
  replace e:(if rs.length=n∧bD rs=true then m (rs.map R.view) else none)=some r:=e
  by_cases hc:rs.length=n∧bD rs=true
  ·
   rw [if_pos hc] at e
   show spN n m (vs++[]) H1 Q E
   rw [List.append_nil]
   obtain ⟨Hs2,q1,q2,q3,q4⟩:=R1.freeze W1.sub
   have W2:Wd H Hs Hs2 H1:=⟨W1.keep,q2,W1.base.trans q3,fun a o e=>by
    rcases q4 (cX hc.2) a o e with z | z
    ·
     exact W1.new a o z
    ·
     exact .inr z⟩
   exact ⟨Hs2,_,r,by rw [List.length_map];exact hc.1,q2,q1,e,fun v Hs3 H3 L W3 O n=>K v Hs3 H3 L (W2.trans W3) O fun a ha=>⟨W1.keep.free (n a ha).1,(n a ha).2⟩⟩
  ·
   rw [if_neg hc] at e;cases e
def runN (k:Nat) (F:FS) (ds:List D):Option D:=match F (ds.map (fun d=>some (.sh d))++List.replicate (k-ds.length) none) with
 | some (.rt r)=>r.toN
 | some (.nx _)=>some .non
 | some (.rn d)=>some d
 | _=>none
section
variable {P:Program} {w:World} {K:Frag} {mg:Str→Option Value} {base:Heap}
theorem fn_N {x qual:Str} {st:Stmt} {f:Addr} {fd:FuncData} {N ps:List Str} {k:Nat} {F:FS} (F0:Fun K x qual st f fd) (S:bU N ps (defScope st))
  (h:∀ (cdv:Value) (A:Around) (outer:List Env) (s:Shared) (H:Hp) (E:XK),aQ k (A.deeper (envOfC qual (defScope st) s.heap.objs.size f cdv))→DSs (dP CX0 P w K mg base N qual (defScope st) f cdv A outer s H E).nox (defBody st) F) :
  bO P w K mg base CX0 (k+1) f fd ps (spN ps.length (runN N.length F)):=by
 refine F0.ok S (fun vs H Q E hs=>spN_len hs) (fun cdv A outer s H vs Q E hr hs=>?_)
 obtain ⟨Hs,ds,d,hl,sub,r,em,post⟩:=hs
 refine ⟨_,(h cdv A outer s H E hr).go H Hs,?_⟩
 unfold runN at em
 cases eF:F (ds.map (fun d=>some (.sh d))++List.replicate (N.length-ds.length) none) with
 | none=>rw [eF] at em;cases em
 | some res=>
  rw [eF] at em
  refine ⟨Hs,_,res,.refl sub,gl r,eF,?_⟩
  cases res with
  | nx δ=>
   cases em
   exact fun σ Hs1 H1 W1 _=>post .non Hs1 H1 [] W1 (by unfold Own;exact ⟨rfl,rfl⟩) fun _ z=>by cases z
  | rt r1=>
   intro v Hs1 H1 W1 R1
   obtain ⟨L,o,n⟩:=R1.toN em
   exact post v Hs1 H1 L W1 o n
  | bk δ=>cases em
  | ct δ=>cases em
  | rn d'=>
   cases em
   exact fun v Hs1 H1 L W1 O n=>post v Hs1 H1 L W1 O n
end
def ssetN (i:Nat) (g:FN):FS:=fun δ=>(g δ).bind fun d=>some (.nx (δ.set i (some (.nw d))))
def ji (g:FN):FS:=fun δ=>(g δ).bind fun d=>some (.rn d)
section
variable {X:Cx} {e:Expr} {g:FN} {pos:Pos}
theorem ds_retN' (h:DN X e g):DS X (.Return (some e) pos) (ji g):=.mk fun H0 Hs0=>(jx h.go).weak fun D σ H ⟨Hs,δ,res,W,S,e,P⟩=>by
 unfold ji at e
 cases et:g δ with
 | none=>rw [et] at e;cases e
 | some d=>
  rw [et] at e
  cases e
  exact ⟨Hs,δ,d,W.sub,S.ent,et,fun v Hs1 H1 L W1 O n=>P v Hs1 H1 L (W.trans W1) O fun a ha=>⟨W.keep.free (n a ha).1,(n a ha).2⟩⟩
end
theorem aI.snoc {H:Hp}:∀ {ds:List D} {vs:List V} {L M:List Addr} {d:D} {v:V},aI H ds vs L→Own H d v M→(∀ a∈L,a∉M)→aI H (ds++[d]) (vs++[v]) (L++M)
 | [],_,_,M,d,v,h,h',n=>by
  unfold aI at h
  obtain ⟨rfl,rfl⟩:=h
  show aI H [d] [v] M
  unfold aI
  exact ⟨v,[],M,[],rfl,h',by unfold aI;exact ⟨rfl,rfl⟩,fun _ _ z=>(by cases z),by simp⟩
 | c::ds,_,_,M,d,v,h,h',n=>by
  unfold aI at h
  obtain ⟨u,r,A,B,rfl,h1,h2,k,rfl⟩:=h
  have:=aI.snoc h2 h' fun a ha=>n a (List.mem_append_right _ ha)
  show aI H (c::(ds++[d])) (u::(r++[v])) _
  unfold aI
  refine ⟨u,r++[v],A,B++M,rfl,h1,this,fun a ha hb=>?_,by simp⟩
  rcases List.mem_append.mp hb with hb | hb
  ·
   exact k a ha hb
  ·
   exact n a (List.mem_append_left _ ha) hb
def bZ (g:GD) (c:DSt→Option Bool) (fe:FN) (δ:DSt):List D→Option (List D)
 | []=>some []
 | d::r=>(g d δ).bind fun δ1=>(c δ1).bind fun b=>if b=true then (fe δ1).bind fun r1=>(bZ g c fe δ r).bind fun t=>some (r1::t) else bZ g c fe δ r
def jj (fi:DSt→Option (List D)) (g:GD) (c:DSt→Option Bool) (fe:FN) (m:Nat) (ix:List Nat):FN:=fun δ=>(fi δ).bind fun items=>if items.length≤big then (bZ g c fe (dIn m ix δ) items).map .lst else none
theorem tN_comp {fi:DSt→Option (List D)} {ks:List Nat} {g:GD} {c:DSt→Option Bool} {fe:FN} {m:Nat} {ix:List Nat} (hk:∀ j∈ks,j<m) {σ:St} {H:Hp} {Q:VK} (h:tN (jj fi g c fe m ix) σ H Q) :
  je (tI fi) (tG ks g) (tDT c) (tN fe) m ix σ H Q:=by
 obtain ⟨Hs,δ,r,S,En,e,K⟩:=h
 unfold jj at e
 cases ei:fi δ with
 | none=>rw [ei] at e;cases e
 | some items=>
  rw [ei] at e
  replace e:(if items.length≤big then (bZ g c fe (dIn m ix δ) items).map D.lst else none)=some r:=e
  by_cases hbig:items.length≤big
  ·
   rw [if_pos hbig] at e
   cases em:bZ g c fe (dIn m ix δ) items with
   | none=>rw [em] at e;cases e
   | some out=>
    rw [em] at e
    cases e
    refine ⟨Hs,δ,items,S,En,ei,fun J Hs1 H1 W1 Y A hA=>?_⟩
    have En1:cG Hs1 H1 (dIn m ix δ) (b6 m ix σ):=entIn m ix (En.mono W1)
    have len1:(b6 m ix σ).length=(dIn m ix δ).length:=by unfold b6 dIn;simp
    have hA1:Hs1 A=none:=W1.sub.free hA
    refine ⟨fun i n σ' H'=>n=items.length-i∧i≤items.length∧σ'.length=(dIn m ix δ).length∧(∀ j,m≤j→σ'[j]?=(b6 m ix σ)[j]?)∧
     ∃ Hs' ds vs rest L,Wd H1 Hs1 Hs' H'∧Hs' A=none∧H' A=some (.lst vs)∧aI H' ds vs L∧(∀ a∈L,H1 a=none∧Hs' a=none∧a≠A)∧ds.length≤i∧bZ g c fe (dIn m ix δ) (items.drop i)=some rest∧out=ds++rest,?_,?_⟩
    ·
     refine ⟨items.length,by simp,Nat.zero_le _,len1,fun _ _=>rfl,Hs1,[],[],out,[],⟨.new hA,W1.sub.trans (.new hA),.refl _,fun _ _ e=>.inl e⟩,hA1,aj,by unfold aI;exact ⟨rfl,rfl⟩,fun _ z=>(by cases z),Nat.zero_le _,by simpa using em,by simp⟩
    ·
     rintro i n σ1 H2 ⟨rfl,hi,hl1,hσ1,Hs2,ds,vs,rest,L,W2,hA2,hv2,r2,nL,hd2,e2,eo⟩
     by_cases hlt:i<items.length
     ·
      have hd:items[i]?=some items[i]:=by simp [hlt]
      obtain ⟨go,yl⟩:=(Y i Hs2 H2 W2.base W2.sub).1 _ hd
      refine .inr ⟨go,fun σ' H'=>i+1≤items.length∧σ'.length=(dIn m ix δ).length∧(∀ j,m≤j→σ'[j]?=(b6 m ix σ)[j]?)∧
       ∃ Hs' ds vs rest L,Wd H1 Hs1 Hs' H'∧Hs' A=none∧H' A=some (.lst vs)∧aI H' ds vs L∧(∀ a∈L,H1 a=none∧Hs' a=none∧a≠A)∧ds.length≤i+1∧bZ g c fe (dIn m ix δ) (items.drop (i+1))=some rest∧out=ds++rest,
       fun σ' H' ⟨a,b,c',d'⟩=>⟨_,by omega,rfl,a,b,c',d'⟩,fun x H3 y=>?_⟩
      obtain ⟨Hs3,W3,rx⟩:=yl x H3 y
      have W13:=W2.trans W3
      have A3:=W3.stay hv2 hA2
      have v3:=W3.keep _ _ hv2
      have En3:cG Hs3 H3 (dIn m ix δ) σ1:=fun j en q=>by
       obtain ⟨v,hv,hr⟩:=(En1.mono W13) j en q
       exact ⟨v,by rw [hσ1 j (jN q)];exact hv,hr⟩
      rw [List.drop_eq_getElem_cons hlt] at e2
      unfold bZ at e2
      cases eg:g items[i] (dIn m ix δ) with
      | none=>rw [eg] at e2;cases e2
      | some δ2=>
       rw [eg] at e2
       refine ⟨Hs3,_,items[i],δ2,W3.sub,hl1,rx,eg,fun σ4 sr=>?_⟩
       have hl4:σ4.length=(dIn m ix δ).length:=by rw [sr.lenS];exact hl1
       have hσ4:∀ j,m≤j→σ4[j]?=(b6 m ix σ)[j]?:=fun j hj=>by
        rw [(sr.out j fun z=>Nat.not_lt.mpr hj (hk j z)).2];exact hσ1 j hj
       have En4:cG Hs3 H3 δ2 σ4:=sr.ent En3
       replace e2:((c δ2).bind fun b=>if b=true then (fe δ2).bind fun r1=>(bZ g c fe (dIn m ix δ) (items.drop (i+1))).bind fun t=>some (r1::t) else bZ g c fe (dIn m ix δ) (items.drop (i+1)))=some rest:=e2
       cases ec:c δ2 with
       | none=>rw [ec] at e2;cases e2
       | some b=>
        rw [ec] at e2
        refine ⟨Hs3,δ2,b,W3.sub,En4,ec,fun Hs5 H5 W5=>?_⟩
        have W15:=W13.trans W5
        have A5:=W5.stay v3 A3
        have v5:=W5.keep _ _ v3
        have k25:aB H2 H5:=W3.keep.trans W5.keep
        have nL5:∀ a∈L,H1 a=none∧Hs5 a=none∧a≠A:=fun a ha=>by
         obtain ⟨o,ho⟩:=aI.cell _ r2 a ha
         exact ⟨(nL a ha).1,W5.stay (W3.keep _ _ ho) (W3.stay ho (nL a ha).2.1),(nL a ha).2.2⟩
        cases b with
        | false=>
         simp only [Bool.false_eq_true,if_false]
         exact ⟨hlt,hl4,hσ4,Hs5,ds,vs,rest,L,W15,A5,v5,r2.mono k25,nL5,by omega,e2,eo⟩
        | true=>
         simp only [if_true]
         replace e2:((fe δ2).bind fun r1=>(bZ g c fe (dIn m ix δ) (items.drop (i+1))).bind fun t=>some (r1::t))=some rest:=e2
         cases ef:fe δ2 with
         | none=>rw [ef] at e2;cases e2
         | some r1=>
          rw [ef] at e2
          replace e2:((bZ g c fe (dIn m ix δ) (items.drop (i+1))).bind fun t=>some (r1::t))=some rest:=e2
          cases er:bZ g c fe (dIn m ix δ) (items.drop (i+1)) with
          | none=>rw [er] at e2;cases e2
          | some t=>
           rw [er] at e2
           cases e2
           refine ⟨Hs5,δ2,r1,W5.sub,En4.mono W5,ef,fun v Hs7 H6 M W7 O6 n6=>?_⟩
           have A7:=W7.stay v5 A5
           have v7:=W7.keep _ _ v5
           have W17:=W15.trans W7
           have nA:H1 A=none:=hA
           have r5:=r2.mono k25
           have dj:∀ a∈L,a∉M:=fun a ha hm=>by
            obtain ⟨o,ho⟩:=aI.cell _ r5 a ha
            rw [(n6 a hm).1] at ho;cases ho
           have nM:∀ a∈M,a≠A:=fun a ha z=>by
            have:=(n6 a ha).1
            rw [z,v5] at this;cases this
           have nLM:∀ a∈L++M,H1 a=none∧Hs7 a=none∧a≠A:=fun a ha=>by
            rcases List.mem_append.mp ha with h | h
            ·
             obtain ⟨o,ho⟩:=aI.cell _ r5 a h
             exact ⟨(nL5 a h).1,W7.stay ho (nL5 a h).2.1,(nL5 a h).2.2⟩
            ·
             exact ⟨W15.keep.free (n6 a h).1,(n6 a h).2,nM a h⟩
           refine ⟨vs,v7,?_,hlt,hl4,hσ4,Hs7,ds++[r1],vs++[v],t,L++M,⟨fun b o q=>?_,fun b o q=>?_,W17.base,W17.new⟩,A7,aj,?_,nLM,by simp;omega,rfl,by rw [eo];simp⟩
           ·
            rw [r2.length];exact Nat.lt_of_le_of_lt hd2 (Nat.lt_trans hlt (bF hbig))
           ·
            rw [ak (az q nA)];exact W17.keep _ _ q
           ·
            rw [ak (az q A7)];exact W17.sub _ _ q
           ·
            exact ((r5.mono W7.keep).snoc O6 dj).agree _ fun a ha=>ak (nLM a ha).2.2
     ·
      have hi':i=items.length:=by omega
      subst hi'
      rw [List.drop_length] at e2
      cases e2
      refine .inl ⟨(Y _ Hs2 H2 W2.base W2.sub).2 (Nat.le_refl _),K _ Hs2 H2 (A::L) (W1.trans W2) ?_ fun a ha=>?_⟩
      ·
       rw [eo,List.append_nil]
       unfold Own
       exact ⟨A,vs,L,rfl,hv2,r2,fun z=>(nL A z).2.2 rfl,rfl⟩
      ·
       rcases List.mem_cons.mp ha with rfl | ha
       ·
        exact ⟨W1.keep.free hA,hA2⟩
       ·
        exact ⟨W1.keep.free (nL a ha).1,(nL a ha).2.1⟩
  ·
   rw [if_neg hbig] at e;cases e
section
variable {X:Cx} {tg elt iter:Expr} {ifs:List Expr} {scope:Scope} {pos:Pos} {N:List Str} {m:Nat} {ix:List Nat} {ks:List Nat} {g:GD} {c:DSt→Option Bool} {fe:FN} {fi:DSt→Option (List D)}
theorem dn_comp (hc:X.calm=true) (S:bA X N m ix scope) (hk:∀ j∈ks,j<m) (hi:DI X tg iter fi)
  (hin:∀ cl C s H fp,DG (aV X N scope cl C s H fp) tg ks g∧DIfs (aV X N scope cl C s H fp) ifs c∧DN (aV X N scope cl C s H fp) elt fe)
  (hs:∀ x,foldedSetIterable iter X.env x=pure x:=by intro _;rfl):DN X (.ListComp elt [⟨tg,iter,ifs,0⟩] scope pos) (jj fi g c fe m ix):=.mk <|
 (pe_comp hc S hi.go (fun cl C s H fp=>⟨(hin cl C s H fp).1.go,(hin cl C s H fp).2.1.go,(hin cl C s H fp).2.2.go⟩) hs).weak fun _ _ _=>tN_comp hk
end
theorem aR.snoc {H:Hp}:∀ {fs:List (Str×D)} {vs:List (Str×V)} {L M:List Addr} {f:Str} {d:D} {v:V},aR H fs vs L→Own H d v M→(∀ a∈L,a∉M)→aR H (fs++[(f,d)]) (vs++[(f,v)]) (L++M)
 | [],_,_,M,f,d,v,h,h',n=>by
  unfold aR at h
  obtain ⟨rfl,rfl⟩:=h
  show aR H [(f,d)] [(f,v)] M
  unfold aR
  exact ⟨v,[],M,[],rfl,h',by unfold aR;exact ⟨rfl,rfl⟩,fun _ _ z=>(by cases z),by simp⟩
 | c::fs,_,_,M,f,d,v,h,h',n=>by
  unfold aR at h
  obtain ⟨u,r,A,B,rfl,h1,h2,k,rfl⟩:=h
  have:=aR.snoc (f:=f) h2 h' fun a ha=>n a (List.mem_append_right _ ha)
  show aR H (c::(fs++[(f,d)])) ((c.1,u)::(r++[(f,v)])) _
  unfold aR
  refine ⟨u,r++[(f,v)],A,B++M,rfl,h1,this,fun a ha hb=>?_,by simp⟩
  rcases List.mem_append.mp hb with hb | hb
  ·
   exact k a ha hb
  ·
   exact n a (List.mem_append_left _ ha) hb
theorem aR.length {H:Hp}:∀ {fs:List (Str×D)} {vs:List (Str×V)} {L:List Addr},aR H fs vs L→vs.length=fs.length
 | [],_,_,h=>by unfold aR at h;rw [h.1];rfl
 | d::ds,_,_,h=>by
  unfold aR at h
  obtain ⟨v,r,M,N,e,h1,h2,_⟩:=h
  rw [e];simp [aR.length h2]
theorem aR.put_none {H:Hp} {f:Str} {v:V}:∀ {fs:List (Str×D)} {vs:List (Str×V)} {L:List Addr},aR H fs vs L→fs.lookup f=none→eL f v vs=vs++[(f,v)]
  | [],_,_,h,_=>by unfold aR at h;rw [h.1];rfl
  | (g,d)::fs,_,_,h,e=>by
    unfold aR at h
    obtain ⟨u,r,A,B,rfl,h1,h2,k,rfl⟩:=h
    rw [List.lookup_cons] at e
    cases hx:f==g with
    | true=>rw [hx] at e;cases e
    | false=>
      rw [hx] at e
      unfold eL
      have:¬g=f:=fun z=>by subst z;simp at hx
      rw [if_neg this,aR.put_none h2 e];rfl
def sfldN (C:Addr) (f:Str) (g:FN):FS:=fun δ=>match δ with
 | some (.on a (.obj C' fs))::r=>if C'=C∧fs.length<1000∧fs.lookup f=none then (g δ).bind fun d=>some (.nx (some (.on a (.obj C (fs++[(f,d)])))::r)) else none
 | _=>none
section
variable {X:Cx} {e:Expr} {g:FN}
theorem ds_fldN {f x:Str} {xp pos pos':Pos} {C:Addr} (hx:PE X (.Name x xp) (tVar 0)) (he:DN X e g) (hk:Cls X.K C∧NoAttr X.K C f)
  (hs:swapsWith e (some (.Attribute (.Name x xp) f pos')) pos.line X.env=pure false:=by rfl) :
  DS X (.Assign [.Attribute (.Name x xp) f pos'] e pos) (sfldN C f g):=.mk fun H0 Hs0=>
 (ps_fld hx he.go hs).weak fun D σ H ⟨Hs,δ,res,W,S,e,P⟩=>by
  match δ,e,S with
  | some (.on a (.obj C' fs))::r,e,S=>
   replace e:(if C'=C∧fs.length<1000∧fs.lookup f=none then (g (some (.on a (.obj C' fs))::r)).bind fun d=>some (Res.nx (some (.on a (.obj C (fs++[(f,d)])))::r)) else none)=some res:=e
   by_cases hc:C'=C∧fs.length<1000∧fs.lookup f=none
   ·
    rw [if_pos hc] at e
    obtain ⟨rfl,hl,hf⟩:=hc
    cases eg:g (some (.on a (.obj C' fs))::r) with
    | none=>rw [eg] at e;cases e
    | some d=>
     rw [eg] at e
     cases e
     refine ⟨Hs,_,d,W.sub,S.ent,eg,fun y Hs1 H1 L1 W1 O1 n1=>?_⟩
     obtain ⟨v,hv,ev,L,O,nL⟩:=S.ent 0 _ rfl
     have O':=O
     unfold Own at O
     obtain ⟨a',dx,fvs,M,e1,h1,h3,h2,nM,nM2,rfl⟩:=O
     rw [ev] at e1;cases e1
     subst ev
     refine ⟨_,hv,a,C',dx,fvs,rfl,W1.keep _ _ h1,hk.1,hk.2,by rw [h2.length];exact hl,?_⟩
     have na:∀ b∈L1,b∉a::dx::M:=fun b hb z=>by
      obtain ⟨o,ho⟩:=Own.cell _ O' b z
      rw [(n1 b hb).1] at ho;cases ho
     have nd:dx≠a:=fun z=>by rw [z,h1] at h3;cases h3
     have aM:Hs1 a=none:=W1.stay h1 (nL a List.mem_cons_self)
     have ON:Own (L2.upd H1 a (.ins C' dx (fvs++[(f,y)]))) (.obj C' (fs++[(f,d)])) (.ref a) (a::dx::(M++L1)):=by
      unfold Own
      refine ⟨a,dx,fvs++[(f,y)],M++L1,rfl,aj,?_,?_,fun z=>?_,fun z=>?_,rfl⟩
      ·
       rw [ak nd];exact W1.keep _ _ h3
      ·
       refine (aR.snoc (h2.mono W1.keep) O1 fun b hb hb1=>na b hb1 (List.mem_cons_of_mem _ (List.mem_cons_of_mem _ hb))).agree _ fun b hb=>ak fun z=>?_
       subst z
       rcases List.mem_append.mp hb with hb | hb
       ·
        exact nM hb
       ·
        exact na _ hb List.mem_cons_self
      ·
       rcases List.mem_append.mp z with z | z
       ·
        exact nM z
       ·
        exact na _ z List.mem_cons_self
      ·
       rcases List.mem_append.mp z with z | z
       ·
        exact nM2 z
       ·
        exact na _ z (List.mem_cons_of_mem _ List.mem_cons_self)
     rw [h2.put_none hf]
     have:=S.upG (i:=0) (Hs':=Hs1) (H':=L2.upd H1 a (.ins C' dx (fvs++[(f,y)]))) (e':=.on a (.obj C' (fs++[(f,d)]))) (v':=.ref a) W rfl hv (fun b o n eb=>by
       have:b≠a:=fun z=>n ⟨_,O',by rw [z];exact List.mem_cons_self⟩
       rw [ak this];exact W1.keep _ _ eb) (fun b o eb=>by rw [ak (az eb aM)];exact W1.sub _ _ eb) W1.base W1.new
       ⟨rfl,_,ON,fun b hb=>by
        rcases List.mem_cons.mp hb with rfl | hb
        ·
         exact aM
        ·
         rcases List.mem_cons.mp hb with rfl | hb
         ·
          exact W1.stay h3 (nL _ (List.mem_cons_of_mem _ List.mem_cons_self))
         ·
          rcases List.mem_append.mp hb with hb | hb
          ·
           obtain ⟨o,ho⟩:=aR.cell _ h2 b hb
           exact W1.stay ho (nL _ (List.mem_cons_of_mem _ (List.mem_cons_of_mem _ hb)))
          ·
           exact (n1 b hb).2⟩
       (fun b ⟨L',f',hb⟩=>by
        rw [Own.uniq _ f' ON] at hb
        rcases List.mem_cons.mp hb with rfl | hb
        ·
         exact .inl ⟨_,O',List.mem_cons_self⟩
        ·
         rcases List.mem_cons.mp hb with rfl | hb
         ·
          exact .inl ⟨_,O',List.mem_cons_of_mem _ List.mem_cons_self⟩
         ·
          rcases List.mem_append.mp hb with hb | hb
          ·
           exact .inl ⟨_,O',List.mem_cons_of_mem _ (List.mem_cons_of_mem _ hb)⟩
          ·
           exact .inr (n1 b hb).1)
     rw [set_same hv] at this
     exact P σ Hs1 _ this.1 this.2
   ·
    rw [if_neg hc] at e;cases e
end
def spIN (C:Addr) (n:Nat) (m:List D→Option (List (Str×D))):Sp:=fun vs H Q _=>∃ H1 Hs p dx us ds fs,ds.length=n∧vs=.ref p::us∧H=L2.upd (L2.upd H1 dx (.own p)) p (.ins C dx [])∧H1 p=none∧H1 dx=none∧dx≠p∧aB Hs H1∧av Hs ds us∧m ds=some fs∧
 ∀ Hs' H' L,Wd H1 Hs Hs' H'→Own H' (.obj C fs) (.ref p) L→(∀ a∈L,H1 a=none∧Hs' a=none)→Q .non H'
def runIN (k:Nat) (C:Addr) (F:FS) (ds:List D) (p:Addr):Option (List (Str×D)):=match F (some (.on p (.obj C []))::(ds.map (fun d=>some (.sh d))++List.replicate (k-(ds.length+1)) none)) with
 | some (.nx (some (.on a (.obj C' fs))::_))=>if a=p∧C'=C then some fs else none
 | _=>none
section
variable {P:Program} {w:World} {K:Frag} {mg:Str→Option Value} {base:Heap}
theorem fn_IN {x qual:Str} {st:Stmt} {f C:Addr} {fd:FuncData} {N ps:List Str} {k n:Nat} {F:FS} {m:List D→Option (List (Str×D))} (hn:ps.length=n+1) (F0:Fun K x qual st f fd) (S:bU N ps (defScope st))
  (hm:∀ ds fs,m ds=some fs→∀ p,runIN N.length C F ds p=some fs)
  (h:∀ (cdv:Value) (A:Around) (outer:List Env) (s:Shared) (H:Hp) (E:XK),aQ k (A.deeper (envOfC qual (defScope st) s.heap.objs.size f cdv))→DSs (dP CX0 P w K mg base N qual (defScope st) f cdv A outer s H E).nox (defBody st) F) :
  bO P w K mg base CX0 (k+1) f fd ps (spIN C n m):=by
 refine F0.ok S (fun vs H Q E' hs=>?_) (fun cdv A outer s H vs Q E' hr hs=>?_)
 ·
  obtain ⟨H1,Hs,p,dx,us,ds,fs,e1,rfl,_,_,_,_,_,r,_⟩:=hs
  rw [List.length_cons,r.length,e1,hn]
 ·
  obtain ⟨H1,Hs,p,dx,us,ds,fs,e1,rfl,rfl,np,nd,ne,sub,r,em,post⟩:=hs
  refine ⟨_,(h cdv A outer s _ E' hr).go H1 Hs,?_⟩
  have em:=hm ds fs em p
  unfold runIN at em
  have np':(L2.upd H1 dx (.own p)) p=none:=by rw [ak (Ne.symm ne)];exact np
  have W0:Wd H1 Hs Hs (L2.upd (L2.upd H1 dx (.own p)) p (.ins C dx [])):=(Wd.fresh sub nd).trans (.fresh (sub.trans (.new nd)) np')
  have hsp:Hs p=none:=sub.free np
  have hsd:Hs dx=none:=sub.free nd
  have O0:Own (L2.upd (L2.upd H1 dx (.own p)) p (.ins C dx [])) (.obj C []) (.ref p) [p,dx]:=by
   unfold Own
   refine ⟨p,dx,[],[],rfl,aj,?_,by unfold aR;exact ⟨rfl,rfl⟩,fun z=>(by cases z),fun z=>(by cases z),rfl⟩
   rw [ak ne,aj]
  have in2:∀ b∈[p,dx],H1 b=none∧Hs b=none:=fun b hb=>by
   rcases List.mem_cons.mp hb with rfl | hb
   ·
    exact ⟨np,hsp⟩
   ·
    rcases List.mem_cons.mp hb with rfl | hb
    ·
     exact ⟨nd,hsd⟩
    ·
     cases hb
  have St0:StR H1 Hs (L2.upd (L2.upd H1 dx (.own p)) p (.ins C dx [])) (some (.on p (.obj C []))::(ds.map (fun d=>some (E.sh d))++List.replicate (N.length-(ds.length+1)) none)) (L2.start N (.ref p::us)):=by
   have hN:n+1≤N.length:=by
    have:=congrArg List.length S.pre
    rw [List.length_take,hn] at this
    omega
   have get:∀ (i:Nat) (en:E),(ds.map (fun d=>some (E.sh d))++List.replicate (N.length-(ds.length+1)) none)[i]?=some (some en)→∃ d,ds[i]?=some d∧en=E.sh d:=fun i en h=>by
    by_cases hi:i<ds.length
    ·
     rw [List.getElem?_append_left (by simpa using hi),List.getElem?_map] at h
     cases q:ds[i]? with
     | none=>rw [q] at h;cases h
     | some d=>rw [q] at h;cases h;exact ⟨d,rfl,rfl⟩
    ·
     rw [List.getElem?_append_right (by simpa using hi),List.getElem?_replicate] at h
     split at h <;> cases h
   refine ⟨fun i en h=>?_,?_,fun i e v b h hv f=>?_,fun i j e e' v v' b hij h h' _ _ f f'=>?_⟩
   ·
    cases i with
    | zero=>
     cases h
     exact ⟨.ref p,rfl,rfl,[p,dx],O0,fun b hb=>(in2 b hb).2⟩
    | succ i=>
     obtain ⟨d,hd,rfl⟩:=get i en (by simpa using h)
     obtain ⟨v,hv,rv⟩:=r.get hd
     refine ⟨v,?_,rv⟩
     unfold L2.start
     have hi:i<us.length:=(List.getElem?_eq_some_iff.mp hv).1
     rw [List.map_cons,List.cons_append,List.getElem?_cons_succ,List.getElem?_append_left (by simpa using hi),List.getElem?_map,hv]
     rfl
   ·
    unfold L2.start
    simp [r.length]
   ·
    cases i with
    | zero=>
     cases h
     have hv':(some (some (V.ref p)):Option (Option V))=some (some v):=hv
     cases hv'
     obtain ⟨L,O,hb⟩:=f
     rw [Own.uniq _ O O0] at hb
     exact (in2 b hb).1
    | succ i=>obtain ⟨d,_,z⟩:=get i _ (by simpa using h);rw [z] at f;cases f
   ·
    cases i with
    | zero=>
     cases j with
     | zero=>exact hij rfl
     | succ j=>obtain ⟨d,_,z⟩:=get j _ (by simpa using h');rw [z] at f';cases f'
    | succ i=>obtain ⟨d,_,z⟩:=get i _ (by simpa using h);rw [z] at f;cases f
  cases eF:F (some (.on p (.obj C []))::(ds.map (fun d=>some (E.sh d))++List.replicate (N.length-(ds.length+1)) none)) with
  | none=>rw [eF] at em;cases em
  | some res=>
   rw [eF] at em
   refine ⟨Hs,_,res,W0,St0,eF,?_⟩
   match res,em with
   | .nx (some (.on a (.obj C' fs'))::rest),em=>
    by_cases hc:a=p∧C'=C
    ·
     simp only [if_pos hc] at em
     cases em
     obtain ⟨rfl,rfl⟩:=hc
     intro σ Hs1 H1' W1 S1
     obtain ⟨v,hv,ev,L,O,nL⟩:=S1.ent 0 _ rfl
     subst ev
     exact post Hs1 H1' L W1 O fun b hb=>⟨S1.new 0 _ _ b rfl hv ⟨L,O,hb⟩,nL b hb⟩
    ·
     simp only [if_neg hc] at em;cases em
end
def gt (C:Addr) (n:Nat) (m:List D→Option (List (Str×D))) (fa:DSt→Option (List R)):FN:=fun δ=>(fa δ).bind fun rs=>if rs.length=n∧bD rs=true then (m (rs.map R.view)).map (.obj C) else none
theorem tN_make {C:Addr} {n:Nat} {m:List D→Option (List (Str×D))} {fr:DSt→Option (List R)} {E:XK} {σ:St} {H:Hp} {Q:VK} (h:tN (gt C n m fr) σ H Q):tMake C (spIN C n m) [] E (tDA fr) σ H Q:=by
 obtain ⟨Hs,δ,r,S,En,e,K⟩:=h
 unfold gt at e
 cases ea:fr δ with
 | none=>rw [ea] at e;cases e
 | some rs=>
  rw [ea] at e
  replace e:(if rs.length=n∧bD rs=true then (m (rs.map R.view)).map (.obj C) else none)=some r:=e
  refine ⟨Hs,δ,rs,S,En,ea,fun vs Hs1 H1 W1 R1 x dx nx nd ne=>?_⟩
  by_cases hc:rs.length=n∧bD rs=true
  ·
   rw [if_pos hc] at e
   cases em:m (rs.map R.view) with
   | none=>rw [em] at e;cases e
   | some fs=>
    rw [em] at e
    cases e
    obtain ⟨Hs2,q1,q2,q3,q4⟩:=R1.freeze W1.sub
    have W2:Wd H Hs Hs2 H1:=⟨W1.keep,q2,W1.base.trans q3,fun a o e=>by
     rcases q4 (cX hc.2) a o e with z | z
     ·
      exact W1.new a o z
     ·
      exact .inr z⟩
    rw [List.append_nil]
    refine ⟨H1,Hs2,x,dx,vs,_,fs,by rw [List.length_map];exact hc.1,rfl,rfl,nx,nd,ne,q2,q1,em,fun Hs3 H3 L W3 O n3=>⟨rfl,?_⟩⟩
    exact K (.ref x) Hs3 H3 L (W2.trans W3) O fun a ha=>⟨W1.keep.free (n3 a ha).1,(n3 a ha).2⟩
  ·
   rw [if_neg hc] at e;cases e
def sifB (i:Nat) (t:DSt→Option Bool) (F G:FS):FS:=fun δ=>(t (frz i δ)).bind fun b=>if b=true then F δ else G δ
def oIs:D→D→Option R
 | .bl b,.bl c=>some (.sh (.bl (decide (b=c))))
 | .non,.bl _=>some (.sh (.bl false))
 | .int _,.bl _=>some (.sh (.bl false))
 | .str _,.bl _=>some (.sh (.bl false))
 | .lst _,.bl _=>some (.sh (.bl false))
 | .tup _,.bl _=>some (.sh (.bl false))
 | .obj _ _,.bl _=>some (.sh (.bl false))
 | .non,.non=>some (.sh (.bl true))
 | .bl _,.non=>some (.sh (.bl false))
 | .int _,.non=>some (.sh (.bl false))
 | .str _,.non=>some (.sh (.bl false))
 | .lst _,.non=>some (.sh (.bl false))
 | .tup _,.non=>some (.sh (.bl false))
 | .obj _ _,.non=>some (.sh (.bl false))
 | _,_=>none
section
variable {X:Cx}
theorem is_vals {H Hs:Hp} {a b:D} {x y:V} {v u:Value} {r:R} (S:aB Hs H) (va:View Hs H a x) (vb:View Hs H b y) (rx:RelV x v) (ry:RelV y u) (e:oIs a b=some r):plainIs v u=true∧r=.sh (.bl (v==u)):=by
 have key:∀ (x:V),RelV x v→(∀ q,x≠.bl q)→(∀ n,x≠.ty n)→(x=.non→v=.none)∧∀ c,plainIs v (.bool c)=true∧(v==Value.bool c)=false∧plainIs v .none=true∧(x≠.non→(v==Value.none)=false):=fun x rx nq nt=>by
  cases x with
  | non=>cases rx;exact ⟨fun _=>rfl,fun c=>⟨rfl,rfl,rfl,fun z=>absurd rfl z⟩⟩
  | bl q=>exact absurd rfl (nq q)
  | int i=>obtain ⟨t,rfl⟩:=rx;exact ⟨fun z=>(by cases z),fun c=>⟨rfl,rfl,rfl,fun _=>rfl⟩⟩
  | str i=>obtain ⟨t,rfl⟩:=rx;exact ⟨fun z=>(by cases z),fun c=>⟨rfl,rfl,rfl,fun _=>rfl⟩⟩
  | byt i=>obtain ⟨t,rfl⟩:=rx;exact ⟨fun z=>(by cases z),fun c=>⟨rfl,rfl,rfl,fun _=>rfl⟩⟩
  | flt i=>obtain ⟨t,rfl⟩:=rx;exact ⟨fun z=>(by cases z),fun c=>⟨rfl,rfl,rfl,fun _=>rfl⟩⟩
  | ref i=>cases rx;exact ⟨fun z=>(by cases z),fun c=>⟨rfl,rfl,rfl,fun _=>rfl⟩⟩
  | ty n=>exact absurd rfl (nt n)
 have fin:∀ {x:V},RelV x v→(∀ q,x≠.bl q)→(∀ n,x≠.ty n)→x≠.non→((∃ c,y=.bl c)∨y=.non)→r=.sh (.bl false)→plainIs v u=true∧r=.sh (.bl (v==u)):=fun {x} rx nq nt nn hy er=>by
  have:=(key x rx nq nt).2
  rcases hy with ⟨c,rfl⟩ | rfl
  ·
   cases ry;rw [er,(this c).2.1];exact ⟨(this c).1,rfl⟩
  ·
   cases ry;rw [er,(this true).2.2.2 nn];exact ⟨(this true).2.2.1,rfl⟩
 match a,b,e,va,vb with
 | .bl p,.bl c,e,va,vb=>
  cases e
  have h1:=va.bl;have h2:=vb.bl
  subst h1;subst h2
  cases rx;cases ry
  refine ⟨rfl,?_⟩
  cases p <;> cases c <;> rfl
 | .non,.non,e,va,vb=>
  cases e
  have h1:=va.non;have h2:=vb.non
  subst h1;subst h2
  cases rx;cases ry
  exact ⟨rfl,rfl⟩
 | .non,.bl c,e,va,vb=>
  cases e
  have h1:=va.non;have h2:=vb.bl
  subst h1;subst h2
  cases rx;cases ry
  exact ⟨rfl,rfl⟩
 | .bl p,.non,e,va,vb=>
  cases e
  have h1:=va.bl;have h2:=vb.non
  subst h1;subst h2
  cases rx;cases ry
  exact ⟨rfl,rfl⟩
 | .int _,.bl _,e,va,vb=>cases e;have h1:=va.int;subst h1;exact fin rx (fun _ z=>by cases z) (fun _ z=>by cases z) (fun z=>by cases z) (.inl ⟨_,vb.bl⟩) rfl
 | .str _,.bl _,e,va,vb=>cases e;have h1:=va.str;subst h1;exact fin rx (fun _ z=>by cases z) (fun _ z=>by cases z) (fun z=>by cases z) (.inl ⟨_,vb.bl⟩) rfl
 | .lst _,.bl _,e,va,vb=>cases e;obtain ⟨a,vs,h1,_⟩:=va.lst S;subst h1;exact fin rx (fun _ z=>by cases z) (fun _ z=>by cases z) (fun z=>by cases z) (.inl ⟨_,vb.bl⟩) rfl
 | .tup _,.bl _,e,va,vb=>cases e;obtain ⟨a,vs,h1,_⟩:=va.tup S;subst h1;exact fin rx (fun _ z=>by cases z) (fun _ z=>by cases z) (fun z=>by cases z) (.inl ⟨_,vb.bl⟩) rfl
 | .obj _ _,.bl _,e,va,vb=>cases e;obtain ⟨a,dx,vs,h1,_⟩:=va.obj S;subst h1;exact fin rx (fun _ z=>by cases z) (fun _ z=>by cases z) (fun z=>by cases z) (.inl ⟨_,vb.bl⟩) rfl
 | .int _,.non,e,va,vb=>cases e;have h1:=va.int;subst h1;exact fin rx (fun _ z=>by cases z) (fun _ z=>by cases z) (fun z=>by cases z) (.inr vb.non) rfl
 | .str _,.non,e,va,vb=>cases e;have h1:=va.str;subst h1;exact fin rx (fun _ z=>by cases z) (fun _ z=>by cases z) (fun z=>by cases z) (.inr vb.non) rfl
 | .lst _,.non,e,va,vb=>cases e;obtain ⟨a,vs,h1,_⟩:=va.lst S;subst h1;exact fin rx (fun _ z=>by cases z) (fun _ z=>by cases z) (fun z=>by cases z) (.inr vb.non) rfl
 | .tup _,.non,e,va,vb=>cases e;obtain ⟨a,vs,h1,_⟩:=va.tup S;subst h1;exact fin rx (fun _ z=>by cases z) (fun _ z=>by cases z) (fun z=>by cases z) (.inr vb.non) rfl
 | .obj _ _,.non,e,va,vb=>cases e;obtain ⟨a,dx,vs,h1,_⟩:=va.obj S;subst h1;exact fin rx (fun _ z=>by cases z) (fun _ z=>by cases z) (fun z=>by cases z) (.inr vb.non) rfl
theorem op_oIs:OpR X (compareOp .Is) (rD oIs):=by
 intro pins s σ H x y v u Q I rx ry h
 obtain ⟨Hs,a,b,r,S,va,vb,e,K⟩:=h
 obtain ⟨hp,rfl⟩:=is_vals S va vb rx ry e
 exact wpAny_is_plain hp (fin_bl I (K (.bl (v==u)) Hs H (.refl S) (shB _ _ _ _)) rfl)
end
section
variable {X:Cx} {e:Expr} {es:List Expr} {fr:DSt→Option (List R)} {x:Str} {p pos:Pos} {id T:String}
theorem dn_u {qual:Str} {st:Stmt} {ps:List Str} {f:Addr} {fd:FuncData} {k n:Nat} {m:List D→Option D} (d:Df X.K X.mg x qual st ps f fd) (G:bO X.prog X.w X.K X.mg X.base CX0 k f fd ps (spN n m)) (hr:aQ k X.A) (ha:DA X (e::es) fr)
 (hg:Gl X x:=by rfl) (hdb:(x==("__debug__" : Str))=false:=by decide) (he:starEach (e::es) X.env=(false,eval e X.env)::starEach es X.env:=by exact aE rfl) (hpl:(backTo pos (starEach es X.env)).any (·.1)=false:=by rfl) :
 DN X (.Call (.Name x p) (e::es) [] pos) (g8 n m fr):=.mk <| (ia (E:=E0) G hr hg d.mgx d.fn.kp d.bd .nil iv ha.go hdb he hpl).weak fun _ _ _=>tN_call
theorem dn_mk {C f:Addr} {fd:FuncData} {ps:List Str} {k n:Nat} {m:List D→Option (List (Str×D))} (M:Mk X.K C f) (G:bO X.prog X.w X.K X.mg X.base CX0 k f fd ps (spIN C n m)) (hb:Binds X.K fd ps []) (hm:X.mg x=some (.ref C)) (hr:aQ (k+1) X.A) (ha:DA X (e::es) fr)
 (hg:Gl X x:=by rfl) (hdb:(x==("__debug__" : Str))=false:=by decide) (he:starEach (e::es) X.env=(false,eval e X.env)::starEach es X.env:=by exact aE rfl) (hpl:(backTo pos (starEach es X.env)).any (·.1)=false:=by rfl) :
 DN X (.Call (.Name x p) (e::es) [] pos) (gt C n m fr):=.mk <| (pe_make (E:=E0) M G hr hg hm hb .nil iv ha.go hdb he hpl).weak fun _ _ _=>tN_make
end
section
variable {δ:DSt} {f:FE} {g h:FN} {gs:DSt→Option (List D)} {fr:DSt→Option (List R)} {t:DSt→Option Bool} {F G:FS}
@[simp] theorem nflat_e:gZ f δ=(f δ).bind R.toN:=rfl
@[simp] theorem toN_sh (d:D):(R.sh d).toN=if d.flat=true then some d else none:=rfl
@[simp] theorem toN_fr (ds:List D):(R.fr ds).toN=if ds.all D.flat=true then some (.lst ds) else none:=rfl
@[simp] theorem dnw_e:dnw g δ=(g δ).map .sh:=rfl
@[simp] theorem nanil_e:nanil δ=some []:=rfl
@[simp] theorem nacons_e:fR g gs δ=(g δ).bind fun d=>(gs δ).bind fun ds=>some (d::ds):=rfl
@[simp] theorem ntup_e:ntup gs δ=(gs δ).bind fun ds=>if ds.length≤big then some (.tup ds) else none:=rfl
@[simp] theorem nlst_e:nlst gs δ=(gs δ).bind fun ds=>if ds.length≤big then some (.lst ds) else none:=rfl
@[simp] theorem nif_e:nif t g h δ=(t δ).bind fun k=>if k=true then g δ else h δ:=rfl
@[simp] theorem ncall_e (n:Nat) (m:List D→Option D):g8 n m fr δ=(fr δ).bind fun rs=>if rs.length=n∧bD rs=true then m (rs.map R.view) else none:=rfl
@[simp] theorem nmake_e (C:Addr) (n:Nat) (m:List D→Option (List (Str×D))):gt C n m fr δ=(fr δ).bind fun rs=>if rs.length=n∧bD rs=true then (m (rs.map R.view)).map (.obj C) else none:=rfl
@[simp] theorem ssetN_e (i:Nat):ssetN i g δ=(g δ).bind fun d=>some (.nx (δ.set i (some (.nw d)))):=rfl
@[simp] theorem sretN_e:ji g δ=(g δ).bind fun d=>some (.rn d):=rfl
@[simp] theorem ncomp_e (fi:DSt→Option (List D)) (g:GD) (c:DSt→Option Bool) (fe:FN) (m:Nat) (ix:List Nat):jj fi g c fe m ix δ=(fi δ).bind fun items=>if items.length≤big then (bZ g c fe (dIn m ix δ) items).map .lst else none:=rfl
@[simp] theorem runN_e (k:Nat) (F:FS) (ds:List D):runN k F ds=match F (ds.map (fun d=>some (.sh d))++List.replicate (k-ds.length) none) with
 | some (.rt r)=>r.toN
 | some (.nx _)=>some .non
 | some (.rn d)=>some d
 | _=>none:=rfl
@[simp] theorem sfldN_e (C C' a:Addr) (f:Str) (fs:List (Str×D)) (r:DSt):sfldN C f g (some (.on a (.obj C' fs))::r)=if C'=C∧fs.length<1000∧fs.lookup f=none then (g (some (.on a (.obj C' fs))::r)).bind fun d=>some (.nx (some (.on a (.obj C (fs++[(f,d)])))::r)) else none:=rfl
@[simp] theorem sifB_e (i:Nat):sifB i t F G δ=(t (frz i δ)).bind fun b=>if b=true then F δ else G δ:=rfl
theorem cmapN_of (g:GD) (c:DSt→Option Bool) (fe:FN) (δ:DSt) {α:Type} (enc:α→D) (p:α→Bool) (out:α→D) (xs:List α)
  (h:∀ x∈xs,∃ δ1,g (enc x) δ=some δ1∧c δ1=some (p x)∧(p x=true→fe δ1=some (out x))) :
  bZ g c fe δ (xs.map enc)=some ((xs.filter p).map out):=by
 induction xs with
 | nil=>rfl
 | cons x xs ih=>
  obtain ⟨δ1,h1,h2,h3⟩:=h x List.mem_cons_self
  have ih:=ih fun y hy=>h y (List.mem_cons_of_mem _ hy)
  rw [List.map_cons]
  unfold bZ
  rw [h1]
  show ((c δ1).bind fun b=>if b=true then (fe δ1).bind fun r1=>(bZ g c fe δ (xs.map enc)).bind fun t=>some (r1::t) else bZ g c fe δ (xs.map enc))=_
  rw [h2]
  show (if p x=true then (fe δ1).bind fun r1=>(bZ g c fe δ (xs.map enc)).bind fun t=>some (r1::t) else bZ g c fe δ (xs.map enc))=_
  by_cases hp:p x=true
  ·
   rw [if_pos hp,h3 hp,ih]
   simp [hp,List.filter_cons]
  ·
   rw [if_neg hp,ih]
   simp [hp,List.filter_cons]
end
open Classical in
noncomputable def eB (K:Frag) (i:Nat) (δ:DSt):Option (List Int):=match δ[i]? with
 | some (some (.scr K' ns))=>if K'=K then some ns else none
 | _=>none
theorem gL {K:Frag} {i:Nat} {δ:DSt} {ns:List Int} (h:eB K i δ=some ns):δ[i]?=some (some (.scr K ns)):=by
 unfold eB at h
 split at h
 ·
  rename_i K' ns' e
  split at h
  ·
   rename_i ek
   cases h
   rw [e,ek]
  ·
   cases h
 ·
  cases h
noncomputable def dlenS (K:Frag) (i:Nat):FE:=fun δ=>(eB K i δ).map fun ns=>.sh (.int ns.length)
noncomputable def dixS (K:Frag) (i:Nat) (f:FE):FE:=fun δ=>(f δ).bind fun r=>match r with
 | .sh (.int k)=>(eB K i δ).bind fun ns=>(atI ns k).map fun n=>.sh (.int n)
 | _=>none
noncomputable def dX (K:Frag) (i:Nat) (m:List Int→Int→Option Int) (f:FE):FE:=fun δ=>(f δ).bind fun r=>match r with
 | .sh (.int k)=>(eB K i δ).bind fun ns=>(m ns k).map fun n=>.sh (.int n)
 | _=>none
def spS (K:Frag) (m:List Int→Int→Option Int):Sp:=fun vs H Q _=>∃ a k ns n,vs=[.ref a,.int k]∧SqL K H a (ns.map V.int)∧m ns k=some n∧∀ Hs H',aB H H'→Wd H H Hs H'→Q (.int n) H'
def spL (K:Frag) (m:List Int→Option D):Sp:=fun vs H Q _=>∃ a ns d,vs=[.ref a]∧SqL K H a (ns.map V.int)∧m ns=some d∧∀ v Hs' H',Wd H H Hs' H'→Rep Hs' d v→Q v H'
noncomputable def runS (k:Nat) (K:Frag) (F:FS) (ns:List Int) (n:Int):Option Int:=match F (some (.scr K ns)::some (.sh (.int n))::List.replicate (k-2) none) with
 | some (.rt (.sh (.int j)))=>some j
 | _=>none
noncomputable def runL (k:Nat) (K:Frag) (F:FS) (ns:List Int):Option D:=match F (some (.scr K ns)::List.replicate (k-1) none) with
 | some (.rt r)=>if r.isBw=true then none else some r.view
 | _=>none
theorem atI_map {α β:Type} {f:α→β} {xs:List α} {k:Int} {x:α} (h:atI xs k=some x):atI (xs.map f) k=some (f x):=by
 unfold atI at h ⊢
 simp only [List.length_map] at h ⊢
 cases e:ixN xs.length k with
 | none=>rw [e] at h;cases h
 | some j=>
  rw [e] at h
  replace h:xs[j]?=some x:=h
  show (xs.map f)[j]?=some (f x)
  rw [List.getElem?_map,h];rfl
section
variable {X:Cx} {e:Expr} {x:Str} {p pos:Pos} {i:Nat} {f:FE}
theorem de_lenS (h:PE X (.Name x p) (tVar i)) (hg:Gl X "len") (hm:X.mg "len" = none) (hs:starEach [.Name x p] X.env=[(false,eval (.Name x p) X.env)]:=by rfl) {p0:Pos} :
  DE X (.Call (.Name "len" p0) [.Name x p] [] pos) (dlenS X.K i):=.mk <| (eN dQ hg hm PySem.boot_len (a5 h cr hs) (he:=hs)).weak fun σ H Q ⟨Hs,δ,r,S,En,e,K⟩=>by
 unfold dlenS at e
 cases es:eB X.K i δ with
 | none=>rw [es] at e;cases e
 | some ns=>
  rw [es] at e
  cases e
  obtain ⟨v,hv,a,ev,hq⟩:=En i _ (gL es)
  refine ⟨v,hv,a,ns.map V.int,by rw [ev],.inl (eO S hq),?_⟩
  rw [List.length_map]
  exact K _ Hs H (.refl S) (by show Rep Hs _ _;unfold Rep;rfl)
theorem de_ixS (h:PE X (.Name x p) (tVar i)) (hb:DE X e f) (hs:ib e):DE X (.Subscript (.Name x p) e pos) (dixS X.K i f):=.mk <| (pe_ix ix_list h hb.go hs).weak fun σ H Q ⟨Hs,δ,r,S,En,e,K⟩=>by
 unfold dixS at e
 cases ef:f δ with
 | none=>rw [ef] at e;cases e
 | some rf=>
  rw [ef] at e
  match rf,e with
  | .sh (.int k),e=>
   replace e:((eB X.K i δ).bind fun ns=>(atI ns k).map fun n=>R.sh (.int n))=some r:=e
   cases es:eB X.K i δ with
   | none=>rw [es] at e;cases e
   | some ns=>
    rw [es] at e
    replace e:((atI ns k).map fun n=>R.sh (.int n))=some r:=e
    cases ea:atI ns k with
    | none=>rw [ea] at e;cases e
    | some n=>
     rw [ea] at e
     cases e
     obtain ⟨v,hv,a,ev,hq⟩:=En i _ (gL es)
     refine ⟨v,hv,Hs,δ,.sh (.int k),S,En,ef,fun y Hs1 H1 W1 R1=>?_⟩
     have R1:Rep Hs1 (.int k) y:=R1
     unfold Rep at R1
     exact ⟨a,ns.map V.int,k,.int n,ev,R1,eO (S.trans W1.keep) hq,atI_map ea,K _ Hs1 H1 W1 (by show Rep Hs1 _ _;unfold Rep;rfl)⟩
theorem de_callS {y qual:Str} {st:Stmt} {ps:List Str} {fa:Addr} {fd:FuncData} {k:Nat} {m:List Int→Int→Option Int} {py:Pos} (d:Df X.K X.mg y qual st ps fa fd) (G:bO X.prog X.w X.K X.mg X.base CX0 k fa fd ps (spS X.K m)) (hr:aQ k X.A)
  (h:PE X (.Name x p) (tVar i)) (hb:DE X e f)
  (hg:Gl X y:=by rfl) (hdb:(y==("__debug__" : Str))=false:=by decide) (he:starEach [.Name x p,e] X.env=(false,eval (.Name x p) X.env)::starEach [e] X.env:=by exact aE rfl) (hs:starEach [e] X.env=[(false,eval e X.env)]:=by exact aE rfl) (hpl:(backTo pos (starEach [e] X.env)).any (·.1)=false:=by rfl) :
  DE X (.Call (.Name y py) [.Name x p,e] [] pos) (dX X.K i m f):=.mk <| (ia (E:=E0) G hr hg d.mgx d.fn.kp d.bd .nil iv (a5 h (a5 hb.go cr hs) he) hdb he hpl).weak fun σ H Q ⟨Hs,δ,r,S,En,e,K⟩=>by
 unfold dX at e
 cases ef:f δ with
 | none=>rw [ef] at e;cases e
 | some rf=>
  rw [ef] at e
  match rf,e with
  | .sh (.int k),e=>
   replace e:((eB X.K i δ).bind fun ns=>(m ns k).map fun n=>R.sh (.int n))=some r:=e
   cases es:eB X.K i δ with
   | none=>rw [es] at e;cases e
   | some ns=>
    rw [es] at e
    replace e:((m ns k).map fun n=>R.sh (.int n))=some r:=e
    cases ea:m ns k with
    | none=>rw [ea] at e;cases e
    | some n=>
     rw [ea] at e
     cases e
     obtain ⟨v,hv,a,ev,hq⟩:=En i _ (gL es)
     refine ⟨v,hv,Hs,δ,.sh (.int k),S,En,ef,fun y Hs1 H1 W1 R1=>?_⟩
     have R1:Rep Hs1 (.int k) y:=R1
     unfold Rep at R1
     refine ⟨a,k,ns,n,by rw [ev,R1];rfl,eO (S.trans W1.keep) hq,ea,fun Hs2 H2 s2 W2=>?_⟩
     exact K _ Hs1 H2 (W1.trans ⟨s2,W1.sub.trans s2,.refl _,fun _ _ e=>.inl e⟩) (by show Rep Hs1 _ _;unfold Rep;rfl)
end
theorem st_scr {K:Frag} {H:Hp} {N:List Str} {a:Addr} {ns:List Int} {ds:List D} {vs:List V} (h:SqL K H a (ns.map V.int)) (r:av H ds vs) :
  StR H H H (some (.scr K ns)::(ds.map (fun d=>some (E.sh d))++List.replicate (N.length-(ds.length+1)) none)) (L2.start N (.ref a::vs)):=by
 have get:∀ (i:Nat) (e:E),(some (.scr K ns)::(ds.map (fun d=>some (E.sh d))++List.replicate (N.length-(ds.length+1)) none))[i]?=some (some e)→(i=0∧e=.scr K ns)∨∃ j d,i=j+1∧ds[j]?=some d∧e=E.sh d:=fun i e h=>by
  cases i with
  | zero=>simp at h;exact .inl ⟨rfl,h.symm⟩
  | succ i=>
   right
   rw [List.getElem?_cons_succ] at h
   by_cases hi:i<ds.length
   ·
    rw [List.getElem?_append_left (by simpa using hi),List.getElem?_map] at h
    cases q:ds[i]? with
    | none=>rw [q] at h;cases h
    | some d=>rw [q] at h;cases h;exact ⟨i,d,rfl,q,rfl⟩
   ·
    rw [List.getElem?_append_right (by simpa using hi),List.getElem?_replicate] at h
    split at h <;> cases h
 have nf:∀ (i:Nat) (e:E) (v:V) (b:Addr),(some (.scr K ns)::(ds.map (fun d=>some (E.sh d))++List.replicate (N.length-(ds.length+1)) none))[i]?=some (some e)→¬Fp H e v b:=fun i e v b h f=>by
  rcases get i e h with ⟨_,rfl⟩ | ⟨_,d,_,_,rfl⟩ <;> cases f
 refine ⟨fun i e h'=>?_,?_,fun i e v b h _ f=>(nf i e v b h f).elim,fun i j e e' v v' b _ h _ _ _ f=>(nf i e v b h f).elim⟩
 ·
  rcases get i e h' with ⟨rfl,rfl⟩ | ⟨j,d,rfl,hd,rfl⟩
  ·
   exact ⟨.ref a,by unfold L2.start;simp,a,rfl,h⟩
  ·
   obtain ⟨v,hv,rv⟩:=r.get hd
   refine ⟨v,?_,rv⟩
   unfold L2.start
   have hi:j<vs.length:=(List.getElem?_eq_some_iff.mp hv).1
   rw [List.getElem?_append_left (by simpa using hi),List.getElem?_map,List.getElem?_cons_succ,hv]
   rfl
 ·
  unfold L2.start
  simp [r.length]
section
variable {P:Program} {w:World} {K:Frag} {mg:Str→Option Value} {base:Heap}
theorem fn_S {x qual:Str} {st:Stmt} {f:Addr} {fd:FuncData} {N:List Str} {p1 p2:Str} {k:Nat} {F:FS} (F0:Fun K x qual st f fd) (S:bU N [p1,p2] (defScope st)) (hN:2≤N.length)
  (h:∀ (cdv:Value) (A:Around) (outer:List Env) (s:Shared) (H:Hp) (E:XK),aQ k (A.deeper (envOfC qual (defScope st) s.heap.objs.size f cdv))→DSs (dP CX0 P w K mg base N qual (defScope st) f cdv A outer s H E).nox (defBody st) F) :
  bO P w K mg base CX0 (k+1) f fd [p1,p2] (spS K (runS N.length K F)):=by
 refine F0.ok S (fun vs H Q E hs=>?_) (fun cdv A outer s H vs Q E hr hs=>?_)
 ·
  obtain ⟨a,k,ns,n,e,_⟩:=hs;rw [e];rfl
 ·
  obtain ⟨a,j,ns,n,rfl,hq,em,post⟩:=hs
  refine ⟨_,(h cdv A outer s H E hr).go H H,?_⟩
  unfold runS at em
  cases eF:F (some (.scr K ns)::some (.sh (.int j))::List.replicate (N.length-2) none) with
  | none=>rw [eF] at em;cases em
  | some res=>
   rw [eF] at em
   have St:=st_scr (N:=N) (K:=K) (H:=H) (ds:=[.int j]) (vs:=[.int j]) hq (.cons (by unfold Rep;rfl) .nil)
   refine ⟨H,_,res,.refl (.refl _),St,eF,?_⟩
   match res,em with
   | .rt (.sh (.int j2)),em=>
    cases em
    intro v Hs1 H1 W1 R1
    have R1:Rep Hs1 (.int n) v:=R1
    unfold Rep at R1
    rw [R1]
    exact post Hs1 H1 W1.keep W1
theorem fn_L {x qual:Str} {st:Stmt} {f:Addr} {fd:FuncData} {N:List Str} {p1:Str} {k:Nat} {F:FS} (F0:Fun K x qual st f fd) (S:bU N [p1] (defScope st)) (hN:1≤N.length)
  (h:∀ (cdv:Value) (A:Around) (outer:List Env) (s:Shared) (H:Hp) (E:XK),aQ k (A.deeper (envOfC qual (defScope st) s.heap.objs.size f cdv))→DSs (dP CX0 P w K mg base N qual (defScope st) f cdv A outer s H E).nox (defBody st) F) :
  bO P w K mg base CX0 (k+1) f fd [p1] (spL K (runL N.length K F)):=by
 refine F0.ok S (fun vs H Q E hs=>?_) (fun cdv A outer s H vs Q E hr hs=>?_)
 ·
  obtain ⟨a,ns,n,e,_⟩:=hs;rw [e];rfl
 ·
  obtain ⟨a,ns,d,rfl,hq,em,post⟩:=hs
  refine ⟨_,(h cdv A outer s H E hr).go H H,?_⟩
  unfold runL at em
  cases eF:F (some (.scr K ns)::List.replicate (N.length-1) none) with
  | none=>rw [eF] at em;cases em
  | some res=>
   rw [eF] at em
   have St:=st_scr (N:=N) (K:=K) (H:=H) (ds:=[]) (vs:=[]) hq .nil
   refine ⟨H,_,res,.refl (.refl _),St,eF,?_⟩
   cases res with
   | nx δ=>cases em
   | bk δ=>cases em
   | ct δ=>cases em
   | rn d=>cases em
   | rt r1=>
    replace em:(if r1.isBw=true then none else some r1.view)=some d:=em
    by_cases hb:r1.isBw=true
    ·
     rw [if_pos hb] at em;cases em
    ·
     rw [if_neg hb] at em
     cases em
     intro v Hs1 H1 W1 R1
     obtain ⟨Hs2,q,W2⟩:=R1.share W1 (fun ds z=>hb (by rw [z];rfl))
     exact post v Hs2 H1 W2 q
end
open Classical in
noncomputable def unif {α:Type} (f:Addr→Option α):Option α:=if h:∃ a,∀ p,f p=some a then some h.choose else none
theorem unif_all {α:Type} {f:Addr→Option α} {a:α} (h:unif f=some a):∀ p,f p=some a:=by
 unfold unif at h
 split at h
 ·
  rename_i e
  cases h
  exact e.choose_spec
 ·
  cases h
theorem unif_of {α:Type} {f:Addr→Option α} {a:α} (h:∀ p,f p=some a):unif f=some a:=by
 unfold unif
 rw [dif_pos ⟨a,h⟩]
 have e:∃ a,∀ p,f p=some a:=⟨a,h⟩
 have:=e.choose_spec 0
 rw [h 0] at this
 exact this.symm
def spLaw (K:Frag):Sp:=fun vs H Q _=>∃ (a:Addr) (ns:List Int),vs=[.ref a]∧ns.length≤63∧SqL K H a (ns.map V.int)∧∀ H',aB H H'→Q (.bl true) H'
theorem spLaw_imp {K:Frag} {m:List Int→Option D} (h:∀ ns:List Int,ns.length≤63→m ns=some (.bl true)):∀ vs H Q E,spLaw K vs H Q E→spL K m vs H Q E:=by
 rintro vs H Q E ⟨a,ns,rfl,hl,hq,k⟩
 refine ⟨a,ns,.bl true,rfl,hq,h ns hl,fun v Hs' H' W r=>?_⟩
 unfold Rep at r
 rw [r]
 exact k H' W.keep
theorem kit_self {K:Frag} {C:Addr}:kitOne K (.ref C) (.ref C)=some true:=by
 unfold kitOne
 rw [if_pos (by simp)]
theorem kit_sub {K:Frag} {C D:Addr} {oc:Value} {od:Option Addr} {cd:ClassData} {sl:Array (Option Value)} {b:Bool} (h1:K.lookup D=some ⟨oc,od,.cls cd,sl⟩) (h2:typeIn K (.ref D)=some (.type "type"))
  (h3:subIn K (.ref C) (.ref D)=some b) (hn:C≠D):kitOne K (.ref C) (.ref D)=some b:=by
 unfold kitOne
 rw [if_neg (by simpa using hn)]
 show (if ((clsIn K D).isSome&&typeIn K (.ref D)==some (.type "type"))=true then subIn K (.ref C) (.ref D) else none)=some b
 have hc:clsIn K D=some cd:=by
  unfold clsIn
  rw [show List.lookup D K=_ from h1]
 rw [hc,h2]
 simpa using h3
theorem kk_int (K:Frag):∀ d b,jQ d=some b→∃ t,TyD K d t∧kitOne K t (.type "int")=some b:=fun d b h=>match d,h with
 | .non,h=>⟨_,.non,by cases h;with_unfolding_all rfl⟩
 | .bl _,h=>⟨_,.bl _,by cases h;with_unfolding_all rfl⟩
 | .int _,h=>⟨_,.int _,by cases h;with_unfolding_all rfl⟩
 | .str _,h=>⟨_,.str _,by cases h;with_unfolding_all rfl⟩
 | .lst _,h=>⟨_,.lst _,by cases h;with_unfolding_all rfl⟩
 | .tup _,h=>⟨_,.tup _,by cases h;with_unfolding_all rfl⟩
 | .obj _ _,h=>by cases h
theorem kk_bool (K:Frag):∀ d b,is_bool d=some b→∃ t,TyD K d t∧kitOne K t (.type "bool")=some b:=fun d b h=>match d,h with
 | .non,h=>⟨_,.non,by cases h;with_unfolding_all rfl⟩
 | .bl _,h=>⟨_,.bl _,by cases h;with_unfolding_all rfl⟩
 | .int _,h=>⟨_,.int _,by cases h;with_unfolding_all rfl⟩
 | .str _,h=>⟨_,.str _,by cases h;with_unfolding_all rfl⟩
 | .lst _,h=>⟨_,.lst _,by cases h;with_unfolding_all rfl⟩
 | .tup _,h=>⟨_,.tup _,by cases h;with_unfolding_all rfl⟩
 | .obj _ _,h=>by cases h
theorem kk_str (K:Frag):∀ d b,dW d=some b→∃ t,TyD K d t∧kitOne K t (.type "str")=some b:=fun d b h=>match d,h with
 | .non,h=>⟨_,.non,by cases h;with_unfolding_all rfl⟩
 | .bl _,h=>⟨_,.bl _,by cases h;with_unfolding_all rfl⟩
 | .int _,h=>⟨_,.int _,by cases h;with_unfolding_all rfl⟩
 | .str _,h=>⟨_,.str _,by cases h;with_unfolding_all rfl⟩
 | .lst _,h=>⟨_,.lst _,by cases h;with_unfolding_all rfl⟩
 | .tup _,h=>⟨_,.tup _,by cases h;with_unfolding_all rfl⟩
 | .obj _ _,h=>by cases h
theorem kk_list (K:Frag):∀ d b,cL d=some b→∃ t,TyD K d t∧kitOne K t (.type "list")=some b:=fun d b h=>match d,h with
 | .non,h=>⟨_,.non,by cases h;with_unfolding_all rfl⟩
 | .bl _,h=>⟨_,.bl _,by cases h;with_unfolding_all rfl⟩
 | .int _,h=>⟨_,.int _,by cases h;with_unfolding_all rfl⟩
 | .str _,h=>⟨_,.str _,by cases h;with_unfolding_all rfl⟩
 | .lst _,h=>⟨_,.lst _,by cases h;with_unfolding_all rfl⟩
 | .tup _,h=>⟨_,.tup _,by cases h;with_unfolding_all rfl⟩
 | .obj _ _,h=>by cases h
theorem kk_tuple (K:Frag):∀ d b,cC d=some b→∃ t,TyD K d t∧kitOne K t (.type "tuple")=some b:=fun d b h=>match d,h with
 | .non,h=>⟨_,.non,by cases h;with_unfolding_all rfl⟩
 | .bl _,h=>⟨_,.bl _,by cases h;with_unfolding_all rfl⟩
 | .int _,h=>⟨_,.int _,by cases h;with_unfolding_all rfl⟩
 | .str _,h=>⟨_,.str _,by cases h;with_unfolding_all rfl⟩
 | .lst _,h=>⟨_,.lst _,by cases h;with_unfolding_all rfl⟩
 | .tup _,h=>⟨_,.tup _,by cases h;with_unfolding_all rfl⟩
 | .obj _ _,h=>by cases h
def Fx (K:Frag) (x qual:Str) (st:Stmt) (ps:List Str):Prop:=∃ f fd,nsIn K mainGlobals x=some (some (.ref f))∧Fun K x qual st f fd∧Binds K fd ps []
def FxL (K:Frag) (x qual:Str) (st:Stmt) (p:Str):Prop:=∃ f fd,nsIn K mainGlobals x=some (some (.ref f))∧Fun K x qual st f fd∧Binds K fd [p] []∧∀ (s:Shared) (u:Value),BindsTo s fd ⟨[u],[]⟩ [(p,u)]
def Fm (K:Frag) (C:Addr) (x qual:Str) (st:Stmt) (ps:List Str):Prop:=∃ f fd,findIn K (.ref C) x=some (some (.ref f))∧isFn K (.ref f)=true∧Fun K x qual st f fd∧Binds K fd ps []
section
variable {K:Frag} {C:Addr} {x qual p:Str} {st:Stmt} {ps:List Str} {f:Addr} {oc:Value} {od an:Option Addr} {osl:Array (Option Value)} {kV doc pm cdv ct:Value}
theorem fx_mk (e1:nsIn K mainGlobals x=some (some (.ref f))) (e2:K.lookup f=some ⟨oc,od,.func (fnOf x qual (defArgs st) (defBody st) (defScope st) .none kV doc pm an cdv ct),osl⟩) (e3:codeIn K cdv qual=true) (e4:keepIn K (.ref f)=true)
  (h:∀ (kV doc pm:Value) (an:Option Addr) (cdv ct:Value) (us:List Value),us.length=ps.length→bindArgs (fnOf x qual (defArgs st) (defBody st) (defScope st) .none kV doc pm an cdv ct) ⟨us,[]⟩=pure (ps.zip us)):Fx K x qual st ps:=
 ⟨f,_,e1,gF e2 e3 e4,(gF e2 e3 e4).binds h⟩
theorem fxl_mk (e1:nsIn K mainGlobals x=some (some (.ref f))) (e2:K.lookup f=some ⟨oc,od,.func (fnOf x qual (defArgs st) (defBody st) (defScope st) .none kV doc pm an cdv ct),osl⟩) (e3:codeIn K cdv qual=true) (e4:keepIn K (.ref f)=true)
  (h:∀ (kV doc pm:Value) (an:Option Addr) (cdv ct:Value) (us:List Value),us.length=[p].length→bindArgs (fnOf x qual (defArgs st) (defBody st) (defScope st) .none kV doc pm an cdv ct) ⟨us,[]⟩=pure ([p].zip us)):FxL K x qual st p:=
 ⟨f,_,e1,gF e2 e3 e4,(gF e2 e3 e4).binds h,fun s u=>.of_eq (h _ _ _ _ _ _ [u] rfl)⟩
theorem fm_mk (e1:findIn K (.ref C) x=some (some (.ref f))) (e2:K.lookup f=some ⟨oc,od,.func (fnOf x qual (defArgs st) (defBody st) (defScope st) .none kV doc pm an cdv ct),osl⟩) (e3:codeIn K cdv qual=true) (e4:keepIn K (.ref f)=true) (e5:isFn K (.ref f)=true)
  (h:∀ (kV doc pm:Value) (an:Option Addr) (cdv ct:Value) (us:List Value),us.length=ps.length→bindArgs (fnOf x qual (defArgs st) (defBody st) (defScope st) .none kV doc pm an cdv ct) ⟨us,[]⟩=pure (ps.zip us)):Fm K C x qual st ps:=
 ⟨f,_,e1,e5,gF e2 e3 e4,(gF e2 e3 e4).binds h⟩
end
section
variable {X:Cx}
def dslT (f:FE) (fl fh:FO):FE:=fun δ=>(f δ).bind fun r=>(fl δ).bind fun lo=>(fh δ).bind fun hi=>match r with
 | .sh (.tup ds)=>if HT.sIx ds.length 0 lo=0∧HT.sIx ds.length ds.length hi=ds.length then none else some (.sh (.tup (cutD ds lo hi)))
 | _=>none
@[simp] theorem dslT_e {f:FE} {fl fh:FO} {δ:DSt}:dslT f fl fh δ=(f δ).bind fun r=>(fl δ).bind fun lo=>(fh δ).bind fun hi=>match r with
 | .sh (.tup ds)=>if HT.sIx ds.length 0 lo=0∧HT.sIx ds.length ds.length hi=ds.length then none else some (.sh (.tup (cutD ds lo hi)))
 | _=>none:=rfl
end
section
variable {K:Frag} {C:Addr} {x qual p zx zq:Str} {st st':Stmt} {ps:List Str} {f:Addr} {oc:Value} {od an:Option Addr} {osl:Array (Option Value)} {kV doc pm cdv ct:Value}
theorem fx_mk2 (ex:x=zx) (eq:qual=zq) (es:st=st') (e1:nsIn K mainGlobals x=some (some (.ref f))) (e2:K.lookup f=some ⟨oc,od,.func (fnOf zx zq (defArgs st') (defBody st') (defScope st') .none kV doc pm an cdv ct),osl⟩) (e3:codeIn K cdv qual=true) (e4:keepIn K (.ref f)=true)
  (h:∀ (kV doc pm:Value) (an:Option Addr) (cdv ct:Value) (us:List Value),us.length=ps.length→bindArgs (fnOf x qual (defArgs st) (defBody st) (defScope st) .none kV doc pm an cdv ct) ⟨us,[]⟩=pure (ps.zip us)):Fx K x qual st ps:=by
 subst ex;subst eq;subst es;exact fx_mk e1 e2 e3 e4 h
theorem fxl_mk2 (ex:x=zx) (eq:qual=zq) (es:st=st') (e1:nsIn K mainGlobals x=some (some (.ref f))) (e2:K.lookup f=some ⟨oc,od,.func (fnOf zx zq (defArgs st') (defBody st') (defScope st') .none kV doc pm an cdv ct),osl⟩) (e3:codeIn K cdv qual=true) (e4:keepIn K (.ref f)=true)
  (h:∀ (kV doc pm:Value) (an:Option Addr) (cdv ct:Value) (us:List Value),us.length=[p].length→bindArgs (fnOf x qual (defArgs st) (defBody st) (defScope st) .none kV doc pm an cdv ct) ⟨us,[]⟩=pure ([p].zip us)):FxL K x qual st p:=by
 subst ex;subst eq;subst es;exact fxl_mk e1 e2 e3 e4 h
theorem fm_mk2 (ex:x=zx) (eq:qual=zq) (es:st=st') (e1:findIn K (.ref C) x=some (some (.ref f))) (e2:K.lookup f=some ⟨oc,od,.func (fnOf zx zq (defArgs st') (defBody st') (defScope st') .none kV doc pm an cdv ct),osl⟩) (e3:codeIn K cdv qual=true) (e4:keepIn K (.ref f)=true) (e5:isFn K (.ref f)=true)
  (h:∀ (kV doc pm:Value) (an:Option Addr) (cdv ct:Value) (us:List Value),us.length=ps.length→bindArgs (fnOf x qual (defArgs st) (defBody st) (defScope st) .none kV doc pm an cdv ct) ⟨us,[]⟩=pure (ps.zip us)):Fm K C x qual st ps:=by
 subst ex;subst eq;subst es;exact fm_mk e1 e2 e3 e4 e5 h
end
structure Fb (K:Frag) (x qual:Str) (st:Stmt) (ps:List Str) where
 f:Addr
 fd:FuncData
 fn:Fun K x qual st f fd
 bd:Binds K fd ps []
structure Fd (K:Frag) (mg:Str→Option Value) (x:Str) (st:Stmt) (ps:List Str) extends Fb K x x st ps where
 mgx:mg x=some (.ref f)
structure Md (K:Frag) (C:Addr) (x qual:Str) (st:Stmt) (ps:List Str) extends Fb K x qual st ps where
 mt:Meth K C x f
structure Ni (K:Frag) (C:Addr) (qual:Str) (st:Stmt) (ps:List Str) extends Fb K "__init__" qual st ps where
 mk':Mk K C f
structure Cd (K:Frag) (mg:Str→Option Value) (C:Addr) (x:Str):Prop where
 cls:Cls K C
 g:mg x=some (.ref C)
def pick:List (Addr×Bool)→Addr→Option Bool
  | [],_=>none
  | (a,b)::r,C=>if C=a then some b else pick r C
@[simp] theorem pick_nil (C:Addr):pick [] C=none:=rfl
@[simp] theorem pick_cons (a:Addr) (b:Bool) (r:List (Addr×Bool)) (C:Addr):pick ((a,b)::r) C=if C=a then some b else pick r C:=rfl
def isT (t:List (Addr×Bool)):D→Option Bool
 | .obj C _=>pick t C
 | _=>none
@[simp] theorem isT_obj (t:List (Addr×Bool)) (C:Addr) (fs:List (Str×D)):isT t (.obj C fs)=pick t C:=rfl
theorem cd_mk {K:Frag} {mg:Str→Option Value} {h:Heap} (KX:K.In h) (G:h.Ns mainGlobals mg) {C:Addr} {x:Str} (e0:nsIn K mainGlobals x=some (some (.ref C))) (e1:plainGet K C Str.empty=true) (e2:hasDictIn K C=true) (e3:plainOver K C=true)
 (e4:findIn K (.ref C) "__setattr__" = some (some (.builtin "object.__setattr__"))):Cd K mg C x:=⟨⟨e1,e2,e3,e4⟩,mg_of KX G e0⟩
noncomputable def Fd.of {K:Frag} {mg:Str→Option Value} {h:Heap} (KX:K.In h) (G:h.Ns mainGlobals mg) {x:Str} {st:Stmt} {ps:List Str} (e:Fx K x x st ps):Fd K mg x st ps:=
 have e1:=e.choose_spec.choose_spec
 ⟨⟨e.choose,e.choose_spec.choose,e1.2.1,e1.2.2⟩,mg_of KX G e1.1⟩
noncomputable def Md.of {K:Frag} {C:Addr} {x q:Str} {st:Stmt} {ps:List Str} (e:Fm K C x q st ps):Md K C x q st ps:=
 have e1:=e.choose_spec.choose_spec
 ⟨⟨e.choose,e.choose_spec.choose,e1.2.2.1,e1.2.2.2⟩,⟨e1.1,e1.2.1,e1.2.2.1.kp⟩⟩
noncomputable def Ni.of {K:Frag} {C:Addr} {q:Str} {st:Stmt} {ps:List Str} (e:Fm K C "__init__" q st ps) (h1:makesIn K C=true) (h2:keepIn K (.ref C)=true):Ni K C q st ps:=
 have e1:=e.choose_spec.choose_spec
 ⟨⟨e.choose,e.choose_spec.choose,e1.2.2.1,e1.2.2.2⟩,⟨h1,e1.1,e1.2.1,h2⟩⟩
structure Fl' (K:Frag) (mg:Str→Option Value) (st:Stmt) extends Fd K mg "law" st ["_law_script"] where
 bl:∀ (s:Shared) (u:Value),BindsTo s fd ⟨[u],[]⟩ [("_law_script",u)]
noncomputable def Fl'.of {K:Frag} {mg:Str→Option Value} {h:Heap} (KX:K.In h) (G:h.Ns mainGlobals mg) {st:Stmt} (e:FxL K "law" "law" st "_law_script"):Fl' K mg st:=
 have e1:=e.choose_spec.choose_spec
 ⟨⟨⟨e.choose,e.choose_spec.choose,e1.2.1,e1.2.2.1⟩,mg_of KX G e1.1⟩,e1.2.2.2⟩
section
variable {K:Frag} {C:Addr} {x qual p zx zq:Str} {st st':Stmt} {ps:List Str} {f:Addr} {oc:Value} {od an:Option Addr} {osl:Array (Option Value)} {kV doc pm cdv ct:Value}
abbrev Bnd (x qual:Str) (st:Stmt) (ps:List Str):Prop:=∀ (kV doc pm:Value) (an:Option Addr) (cdv ct:Value) (us:List Value),us.length=ps.length→bindArgs (fnOf x qual (defArgs st) (defBody st) (defScope st) .none kV doc pm an cdv ct) ⟨us,[]⟩=pure (ps.zip us)
theorem fx2 (es:st=st') (e1:nsIn K mainGlobals x=some (some (.ref f))) (e2:K.lookup f=some ⟨oc,od,.func (fnOf zx zq (defArgs st') (defBody st') (defScope st') .none kV doc pm an cdv ct),osl⟩) (e3:codeIn K cdv qual=true) (e4:keepIn K (.ref f)=true)
 (h:Bnd x qual st ps:=by first | (exact fun _ _ _ _ _ _ us hl=>match us,hl with | [_],_=>rfl) | (exact fun _ _ _ _ _ _ us hl=>match us,hl with | [_,_],_=>rfl) | (exact fun _ _ _ _ _ _ us hl=>match us,hl with | [_,_,_],_=>rfl) | (exact fun _ _ _ _ _ _ us hl=>match us,hl with | [_,_,_,_],_=>rfl) | (exact fun _ _ _ _ _ _ us hl=>match us,hl with | [_,_,_,_,_],_=>rfl))
 (ex:x=zx:=by kernel_rfl) (eq:qual=zq:=by kernel_rfl):Fx K x qual st ps:=fx_mk2 ex eq es e1 e2 e3 e4 h
theorem fxl2 (es:st=st') (e1:nsIn K mainGlobals x=some (some (.ref f))) (e2:K.lookup f=some ⟨oc,od,.func (fnOf zx zq (defArgs st') (defBody st') (defScope st') .none kV doc pm an cdv ct),osl⟩) (e3:codeIn K cdv qual=true) (e4:keepIn K (.ref f)=true)
 (h:Bnd x qual st [p]:=by (exact fun _ _ _ _ _ _ us hl=>match us,hl with | [_],_=>rfl)) (ex:x=zx:=by kernel_rfl) (eq:qual=zq:=by kernel_rfl):FxL K x qual st p:=fxl_mk2 ex eq es e1 e2 e3 e4 h
theorem fm2 (es:st=st') (e1:findIn K (.ref C) x=some (some (.ref f))) (e2:K.lookup f=some ⟨oc,od,.func (fnOf zx zq (defArgs st') (defBody st') (defScope st') .none kV doc pm an cdv ct),osl⟩) (e3:codeIn K cdv qual=true) (e4:keepIn K (.ref f)=true) (e5:isFn K (.ref f)=true)
 (h:Bnd x qual st ps:=by first | (exact fun _ _ _ _ _ _ us hl=>match us,hl with | [_],_=>rfl) | (exact fun _ _ _ _ _ _ us hl=>match us,hl with | [_,_],_=>rfl) | (exact fun _ _ _ _ _ _ us hl=>match us,hl with | [_,_,_],_=>rfl) | (exact fun _ _ _ _ _ _ us hl=>match us,hl with | [_,_,_,_],_=>rfl) | (exact fun _ _ _ _ _ _ us hl=>match us,hl with | [_,_,_,_,_],_=>rfl))
 (ex:x=zx:=by kernel_rfl) (eq:qual=zq:=by kernel_rfl):Fm K C x qual st ps:=fm_mk2 ex eq es e1 e2 e3 e4 e5 h
end
abbrev Ok {K:Frag} {x q:Str} {st:Stmt} {ps:List Str} (P:Program) (w:World) (mg:Str→Option Value) (base:Heap) (k:Nat) (F:Fb K x q st ps) (sp:Sp):Prop:=bO P w K mg base CX0 k F.f F.fd ps sp
def cw (N ps:List Str) (sc:Scope):Bool:=sc.kind==.function&&!sc.isCoroutine&&!sc.isGenerator&&decide N.Nodup&&N.take ps.length==ps&&ps.all (fun x=>sc.names.lookup x==some .local||sc.names.lookup x==some .cell)&&sc.names.all (fun y=>!(y.2==.free))
theorem cw.fs {N ps:List Str} {sc:Scope} (h:cw N ps sc=true):bU N ps sc:=by
 unfold cw at h
 simp only [Bool.and_eq_true] at h
 obtain ⟨⟨⟨⟨⟨⟨a,b⟩,c⟩,d⟩,e⟩,f⟩,g⟩:=h
 refine ⟨by simpa using a,by simpa using b,by simpa using c,by simpa using d,by simpa using e,fun x hx=>?_,fun y hy z=>?_⟩
 ·
  have:=List.all_eq_true.mp f x hx
  simpa using this
 ·
  have:=List.all_eq_true.mp g y hy
  simp [z] at this
section
variable {P:Program} {w:World} {K:Frag} {mg:Str→Option Value} {base:Heap} {x q:Str} {st:Stmt} {ps:List Str} {k:Nat} {F:FS}
abbrev Bod (P:Program) (w:World) (mg:Str→Option Value) (base:Heap) (k:Nat) (F0:Fb K x q st ps) (L:List Str) (F:FS):Prop:=
 ∀ (cdv:Value) (A:Around) (outer:List Env) (s:Shared) (H:Hp) (E:XK),aQ k (A.deeper (envOfC q (defScope st) s.heap.objs.size F0.f cdv))→(ps++L).Nodup→DSs (dP CX0 P w K mg base (ps++L) q (defScope st) F0.f cdv A outer s H E).nox (defBody st) F
theorem fD {F0:Fb K x q st ps} (L:List Str) (h:Bod P w mg base k F0 L F) (S:cw (ps++L) ps (defScope st)=true:=by kernel_rfl):Ok P w mg base (k+1) F0 (spD ps.length (run (ps++L).length F)):=
 fn_D F0.fn (cw.fs S) fun cdv A o s H E hr=>h cdv A o s H E hr (cw.fs S).nd
theorem fN {F0:Fb K x q st ps} (L:List Str) (h:Bod P w mg base k F0 L F) (S:cw (ps++L) ps (defScope st)=true:=by kernel_rfl):Ok P w mg base (k+1) F0 (spN ps.length (runN (ps++L).length F)):=
 fn_N F0.fn (cw.fs S) fun cdv A o s H E hr=>h cdv A o s H E hr (cw.fs S).nd
theorem fI {F0:Fb K x q st ps} {C:Addr} {n:Nat} (L:List Str) (h:Bod P w mg base k F0 L F) (hn:ps.length=n+1:=by rfl) (S:cw (ps++L) ps (defScope st)=true:=by kernel_rfl):Ok P w mg base (k+1) F0 (spIN C n (fun ds=>unif fun p=>runIN (ps++L).length C F ds p)):=
 fn_IN hn F0.fn (cw.fs S) (fun ds fs h=>unif_all h) fun cdv A o s H E hr=>h cdv A o s H E hr (cw.fs S).nd
theorem fS {p1 p2:Str} {F0:Fb K x q st [p1,p2]} (L:List Str) (h:Bod P w mg base k F0 L F) (S:cw ([p1,p2]++L) [p1,p2] (defScope st)=true:=by kernel_rfl):Ok P w mg base (k+1) F0 (spS K (runS ([p1,p2]++L).length K F)):=
 fn_S F0.fn (cw.fs S) (by simp) fun cdv A o s H E hr=>h cdv A o s H E hr (cw.fs S).nd
theorem fL {p1:Str} {F0:Fb K x q st [p1]} (L:List Str) (h:Bod P w mg base k F0 L F) (S:cw ([p1]++L) [p1] (defScope st)=true:=by kernel_rfl):Ok P w mg base (k+1) F0 (spL K (runL ([p1]++L).length K F)):=
 fn_L F0.fn (cw.fs S) (by simp) fun cdv A o s H E hr=>h cdv A o s H E hr (cw.fs S).nd
end
section
variable {X:Cx} {a b c d e o:Expr} {es:List Expr} {fa fb fc fd fo f:FE} {g:FN} {fr:DSt→Option (List R)} {x y q:Str} {st:Stmt} {ps:List Str} {p pos pos' apos:Pos} {i j k n m':Nat} {C:Addr} {m:List D→Option D} {F G:FS} {body:List Stmt}
theorem dv (hN:X.N[i]?=some x:=by rfl) (hv:Vis X.env.scope x:=by first | exact Or.inl rfl | exact Or.inr (Or.inl rfl) | exact Or.inr (Or.inr rfl)) (hd:(x==("__debug__" : Str))=false:=by decide)
 (hcd:(x==("__classdict__" : Str))=false:=by decide):DE X (.Name x pos) (ad i):=de_var (pv i hN hv hd hcd)
theorem dk {z:Int} (h:∃ t,X.mg x=some (.int z t)) (hg:Gl X x:=by rfl) (hd:(x==("__debug__" : Str))=false:=by decide):DE X (.Name x pos) (ac (.int z)):=by
 obtain ⟨t,h⟩:=h
 exact iz (h8 (v:=.int z) hg h ⟨_,rfl⟩ hd) fun H=>by unfold Rep;rfl
theorem dx (ha:DE X a fa) (hb:DE X b fb) (hs:ib b:=by exact fun _ _=>rfl):DE X (.Subscript a b pos) (af oIx fa fb):=de_ix ix_oIx ha hb hs
theorem d1 (ha:DE X e fa) (hs:starEach [e] X.env=(false,eval e X.env)::starEach [] X.env:=by exact aE rfl):DA X [e] (aa fa ah):=ae ha jK hs
theorem du {F:Fd X.K X.mg x st ps} (G:Ok X.prog X.w X.mg X.base k F.toFb (spD n m)) (hr:aQ j X.A) (ha:DA X (e::es) fr) (hk:k≤j:=by decide)
 (hg:Gl X x:=by rfl) (hdb:(x==("__debug__" : Str))=false:=by decide) (he:starEach (e::es) X.env=(false,eval e X.env)::starEach es X.env:=by exact aE rfl) (hpl:(backTo pos (starEach es X.env)).any (·.1)=false:=by rfl) :
 DE X (.Call (.Name x p) (e::es) [] pos) (aq n m fr):=de_u ⟨F.fn,F.mgx,F.bd⟩ G (hr.mono hk) ha hg hdb he hpl
theorem nu {F:Fd X.K X.mg x st ps} (G:Ok X.prog X.w X.mg X.base k F.toFb (spN n m)) (hr:aQ j X.A) (ha:DA X (e::es) fr) (hk:k≤j:=by decide)
 (hg:Gl X x:=by rfl) (hdb:(x==("__debug__" : Str))=false:=by decide) (he:starEach (e::es) X.env=(false,eval e X.env)::starEach es X.env:=by exact aE rfl) (hpl:(backTo pos (starEach es X.env)).any (·.1)=false:=by rfl) :
 DN X (.Call (.Name x p) (e::es) [] pos) (g8 n m fr):=dn_u ⟨F.fn,F.mgx,F.bd⟩ G (hr.mono hk) ha hg hdb he hpl
theorem nk {F:Ni X.K C q st ps} {m:List D→Option (List (Str×D))} (c:Cd X.K X.mg C x) (G:Ok X.prog X.w X.mg X.base k F.toFb (spIN C n m)) (hr:aQ j X.A) (ha:DA X (e::es) fr) (hk:k+1≤j:=by decide)
 (hg:Gl X x:=by rfl) (hdb:(x==("__debug__" : Str))=false:=by decide) (he:starEach (e::es) X.env=(false,eval e X.env)::starEach es X.env:=by exact aE rfl) (hpl:(backTo pos (starEach es X.env)).any (·.1)=false:=by rfl) :
 DN X (.Call (.Name x p) (e::es) [] pos) (gt C n m fr):=dn_mk F.mk' G F.bd c.g (hr.mono hk) ha hg hdb he hpl
theorem dm {F:Md X.K C x q st ps} {pl:Sem Bool} (c:Cls X.K C) (G:Ok X.prog X.w X.mg X.base k F.toFb (spD n m)) (hr:aQ j X.A) (ho:DE X o fo) (ha:DA X (e::es) fr) (hk:k≤j:=by decide)
  (hst:starEach (e::es) X.env=(false,eval e X.env)::starEach es X.env:=by rfl) (hpl:(backTo pos (starEach es X.env)).any (·.1)=false:=by rfl)
  (ht:eval (.Call (.Attribute o x apos) (e::es) [] pos) X.env=(do
   let ov ←eval o X.env
   standAt apos.atName
   let (f,first) ←holding [ov] (getMethod ov x pl)
   callWith pos f first (backTo pos (starEach (e::es) X.env)) (backToKw pos (keywordEach [] X.env))):=by rfl):DE X (.Call (.Attribute o x apos) (e::es) [] pos) (ez C x n m fo fr):=
 de_m (pe_meth (E:=E0) ho.go c F.mt G (hr.mono hk) F.bd .nil iv ha.go hst hpl ht)
theorem dm0 {F:Md X.K C x q st ps} {pl:Sem Bool} (c:Cls X.K C) (G:Ok X.prog X.w X.mg X.base k F.toFb (spD n m)) (hr:aQ j X.A) (ho:DE X o fo) (hk:k≤j:=by decide)
  (ht:eval (.Call (.Attribute o x apos) [] [] pos) X.env=(do
   let ov ←eval o X.env
   standAt apos.atName
   let (f,first) ←holding [ov] (getMethod ov x pl)
   callWith pos f first (backTo pos (starEach [] X.env)) (backToKw pos (keywordEach [] X.env))):=by rfl):DE X (.Call (.Attribute o x apos) [] [] pos) (ez C x n m fo ah):=
 de_m0 (pe_meth0 (E:=E0) ho.go c F.mt G (hr.mono hk) F.bd .nil iv ht)
theorem duS {F:Fd X.K X.mg y st ps} {m:List Int→Int→Option Int} {py:Pos} (G:Ok X.prog X.w X.mg X.base k F.toFb (spS X.K m)) (hr:aQ j X.A) (h:PE X (.Name x p) (tVar i)) (hb:DE X e f) (hk:k≤j:=by decide)
 (hg:Gl X y:=by rfl) (hdb:(y==("__debug__" : Str))=false:=by decide) (he:starEach [.Name x p,e] X.env=(false,eval (.Name x p) X.env)::starEach [e] X.env:=by exact aE rfl) (hs:starEach [e] X.env=[(false,eval e X.env)]:=by exact aE rfl) (hpl:(backTo pos (starEach [e] X.env)).any (·.1)=false:=by rfl) :
 DE X (.Call (.Name y py) [.Name x p,e] [] pos) (dX X.K i m f):=de_callS ⟨F.fn,F.mgx,F.bd⟩ G (hr.mono hk) h hb hg hdb he hs hpl
theorem df (ho:DE X o fo) (hc:Cls X.K C) (hk:NoAttr X.K C x) (hb:attributeBase o x X.env (eval o X.env)=eval o X.env:=by rfl):DE X (.Attribute o x pos) (dfld (isC C) x fo):=de_fld ho (fun C' h=>by rw [isC_of h];exact ⟨hc,hk⟩) hb
theorem ii_int (he:DE X e f) (h1:X.mg "int" = none) (h2:X.mg "isinstance" = none) (hs:starEach [e,.Name "int" p] X.env=(false,eval e X.env)::starEach [.Name "int" p] X.env:=by rfl) (hg:Gl X "int":=by rfl) (hg2:Gl X "isinstance":=by rfl) :
 DE X (.Call (.Name "isinstance" apos) [e,.Name "int" p] [] pos) (aF jQ f):=dG he (fk (v:=.ty "int") hg h1 boot_int rfl) (.inl ⟨_,rfl⟩) rfl (kk_int _) hg2 h2 hs
theorem ii_bool (he:DE X e f) (h1:X.mg "bool" = none) (h2:X.mg "isinstance" = none) (hs:starEach [e,.Name "bool" p] X.env=(false,eval e X.env)::starEach [.Name "bool" p] X.env:=by rfl) (hg:Gl X "bool":=by rfl) (hg2:Gl X "isinstance":=by rfl) :
 DE X (.Call (.Name "isinstance" apos) [e,.Name "bool" p] [] pos) (aF is_bool f):=dG he (fk (v:=.ty "bool") hg h1 boot_bool rfl) (.inl ⟨_,rfl⟩) rfl (kk_bool _) hg2 h2 hs
theorem jU (he:DE X e f) (h1:X.mg "list" = none) (h2:X.mg "isinstance" = none) (hs:starEach [e,.Name "list" p] X.env=(false,eval e X.env)::starEach [.Name "list" p] X.env:=by rfl) (hg:Gl X "list":=by rfl) (hg2:Gl X "isinstance":=by rfl) :
 DE X (.Call (.Name "isinstance" apos) [e,.Name "list" p] [] pos) (aF cL f):=dG he (fk (v:=.ty "list") hg h1 boot_list rfl) (.inl ⟨_,rfl⟩) rfl (kk_list _) hg2 h2 hs
theorem ii_tuple (he:DE X e f) (h1:X.mg "tuple" = none) (h2:X.mg "isinstance" = none) (hs:starEach [e,.Name "tuple" p] X.env=(false,eval e X.env)::starEach [.Name "tuple" p] X.env:=by rfl) (hg:Gl X "tuple":=by rfl) (hg2:Gl X "isinstance":=by rfl) :
 DE X (.Call (.Name "isinstance" apos) [e,.Name "tuple" p] [] pos) (aF cC f):=dG he (fk (v:=.ty "tuple") hg h1 boot_tuple rfl) (.inl ⟨_,rfl⟩) rfl (kk_tuple _) hg2 h2 hs
theorem ii_str (he:DE X e f) (h1:X.mg "str" = none) (h2:X.mg "isinstance" = none) (hs:starEach [e,.Name "str" p] X.env=(false,eval e X.env)::starEach [.Name "str" p] X.env:=by rfl) (hg:Gl X "str":=by rfl) (hg2:Gl X "isinstance":=by rfl) :
 DE X (.Call (.Name "isinstance" apos) [e,.Name "str" p] [] pos) (aF dW f):=dG he (fk (v:=.ty "str") hg h1 boot_str rfl) (.inl ⟨_,rfl⟩) rfl (kk_str _) hg2 h2 hs
theorem fJ (hm:X.mg "len" = none) (ha:DE X e f) (hg:Gl X "len":=by rfl) (he:starEach [e] X.env=(false,eval e X.env)::starEach [] X.env:=by exact aE rfl):DE X (.Call (.Name "len" p) [e] [] pos) (ao bK (aa f ah)):=de_b1 c_len PySem.boot_len hm (d1 ha he) hg (he:=he)
theorem b_all (hm:X.mg "all" = none) (ha:DE X e f) (hc:X.calm=true:=by rfl) (hg:Gl X "all":=by rfl) (he:starEach [e] X.env=(false,eval e X.env)::starEach [] X.env:=by exact aE rfl):DE X (.Call (.Name "all" p) [e] [] pos) (ao hU (aa f ah)):=de_b1 (c_all hc) boot_all hm (d1 ha he) hg (he:=he)
theorem c_eq (ha:DE X a fa) (hb:DE X b fb) (hr:aQ j X.A):DE X (.Compare a [.Eq] [b] pos) (af oEq fa fb):=de_cmp (op_oEq (hu64 hr)) ha hb (jz _)
theorem t_eq (ha:DE X a fa) (hb:DE X b fb) (hr:aQ j X.A):DT X (.Compare a [.Eq] [b] pos) (ap (af oEq fa fb)):=jI (op_oEq (hu64 hr)) ha hb (jz _)
theorem t_ne (ha:DE X a fa) (hb:DE X b fb) (hr:aQ j X.A):DT X (.Compare a [.NotEq] [b] pos) (ap (af oNe fa fb)):=jI (op_oNe (hu64 hr)) ha hb (jz _)
theorem t_ni (ha:DE X a fa) (hb:DE X b fb) (hr:aQ j X.A) (hm:behindInMarks .NotIn b=false:=by with_unfolding_all rfl):DT X (.Compare a [.NotIn] [b] pos) (ap (af cQ fa fb)):=jI (op_oNotIn (hu64 hr)) ha hb hm
theorem tc2 {op:CmpOp} {o:D→D→Option R} (ho:OpR X (compareOp op) (rD o)) (ha:DE X a fa) (hb:DE X b fb) (hm:behindInMarks op b=false:=by exact jz _):DT X (.Compare a [op] [b] pos) (ap (af o fa fb)):=jI ho ha hb hm
theorem t_and {tf tg:DSt→Option Bool} (ha:DT X a tf) (hb:DT X b tg):DT X (.BoolOp .And [a,b] pos) (gg tf tg):=(dw_and ha (dw_and1 hb)).dt
theorem t_or {tf tg:DSt→Option Bool} (ha:DT X a tf) (hb:DT X b tg):DT X (.BoolOp .Or [a,b] pos) (cI tf tg):=(dw_or ha (dw_or1 hb)).dt
abbrev Inn (X:Cx) (N:List Str) (scope:Scope) (tg elt:Expr) (ifs:List Expr) (ks:List Nat) (g:GD) (c:DSt→Option Bool) (fe:FE):Prop:=N.Nodup→∀ cl C s H fp,DG (aV X N scope cl C s H fp) tg ks g∧DIfs (aV X N scope cl C s H fp) ifs c∧DE (aV X N scope cl C s H fp) elt fe
abbrev InN (X:Cx) (N:List Str) (scope:Scope) (tg elt:Expr) (ifs:List Expr) (ks:List Nat) (g:GD) (c:DSt→Option Bool) (fe:FN):Prop:=N.Nodup→∀ cl C s H fp,DG (aV X N scope cl C s H fp) tg ks g∧DIfs (aV X N scope cl C s H fp) ifs c∧DN (aV X N scope cl C s H fp) elt fe
section
variable {scope:Scope} {tg iter elt:Expr} {ifs:List Expr} {ks ix:List Nat} {fi:DSt→Option (List D)} {g:GD} {c:DSt→Option Bool} {fe:FE} {fn:FN} {spos py:Pos}
theorem dc (N:List Str) (hi:DI X tg iter fi) (hin:Inn X N scope tg elt ifs ks g c fe) (hc:X.calm=true:=by rfl) (S:gH X.env.scope X.N N n ix scope=true:=by kernel_rfl) (nd:N.Nodup:=by decide +kernel) (hk:∀ j∈ks,j<n:=by decide)
 (hs:∀ x,foldedSetIterable iter X.env x=pure x:=by intro _;rfl):DE X (.ListComp elt [⟨tg,iter,ifs,0⟩] scope pos) (bI fi g c fe n ix):=de_comp hc (fu rfl rfl S) hk hi (hin nd) hs
theorem nc (N:List Str) (hi:DI X tg iter fi) (hin:InN X N scope tg elt ifs ks g c fn) (hc:X.calm=true:=by rfl) (S:gH X.env.scope X.N N n ix scope=true:=by kernel_rfl) (nd:N.Nodup:=by decide +kernel) (hk:∀ j∈ks,j<n:=by decide)
 (hs:∀ x,foldedSetIterable iter X.env x=pure x:=by intro _;rfl):DN X (.ListComp elt [⟨tg,iter,ifs,0⟩] scope pos) (jj fi g c fn n ix):=dn_comp hc (fu rfl rfl S) hk hi (hin nd) hs
theorem sc (N:List Str) (hN:X.N.Nodup) (hi:DI X tg iter fi) (hin:Inn X N scope tg elt ifs ks g c fe) (hc:X.calm=true:=by rfl) (S:gH X.env.scope X.N N n ix scope=true:=by kernel_rfl) (nd:N.Nodup:=by decide +kernel) (hk:∀ j∈ks,j<n:=by decide)
 (hiy:X.N[i]?=some y:=by rfl) (hy:Loc X.env.scope y:=by first | exact .inl rfl | exact .inr rfl)
 (hsw:swapsWith (.ListComp elt [⟨tg,iter,ifs,0⟩] scope pos) (some (.Name y py)) spos.line X.env=pure true:=by rfl) (hf:X.fn y=true∨X.env.scope.names.lookup y=some .local:=by first | exact .inl rfl | exact .inr rfl | assumption)
 (hs:∀ x,foldedSetIterable iter X.env x=pure x:=by intro _;rfl):DS X (.Assign [.Name y py] (.ListComp elt [⟨tg,iter,ifs,0⟩] scope pos) spos) (sset i (bI fi g c fe n ix)):=ds_comp hc (fu rfl rfl S) hk hi (hin nd) hN hiy hy hsw hf hs
theorem gn (hN:X.N.Nodup) (hi:X.N[i]?=some x:=by rfl) (hx:Loc X.env.scope x:=by first | exact .inl rfl | exact .inr rfl) (hf:X.fn x=true∨X.env.scope.names.lookup x=some .local:=by first | exact .inl rfl | exact .inr rfl | assumption):DG X (.Name x pos) [i] (aH i):=dg_name (pg_name hN hi hx hf)
theorem g2 {k:Nat} {js:List Nat} {g':GD} (h1:DG X a ks g) (h2:DG X b js g') (hc:X.calm=true:=by rfl) (e1:(assignEach [a,b] X.env).map (·.2)=assign a X.env::(assignEach [b] X.env).map (·.2):=by rfl) (e2:(assignEach [b] X.env).map (·.2)=assign b X.env::(assignEach [] X.env).map (·.2):=by rfl)
 (hn:(assignEach [a,b] X.env).length=2:=by rfl) (hst:(assignEach [a,b] X.env).findIdx? (·.1)=none:=by rfl):DG X (.Tuple [a,b] k pos) (ks++(js++[])) (gtup 2 (fG g (fG g' gnil))):=dg_tup hc (kn h1 (kn h2 dgs_nil e2) e1) hn hst
theorem sf (hi:DI X tg iter fi) (hg:DG X tg ks g) (hb:DSs X body F) (hc:X.calm=true:=by rfl) (hp:PassesOwn (model X.prog X.w) X.A X.env X.xe:=by exact PassesOwn.never) (hs:∀ x,foldedSetIterable iter X.env x=pure x:=by intro _;rfl):DS X (.For tg iter body [] pos) (eP fi g F):=ds_for hp hc hi hg hb hs
theorem ir (hm:X.mg "range" = none) (ha:DE X a fa) (hg:Gl X "range":=by rfl) (hs:starEach [a] X.env=[(false,eval a X.env)]:=by exact aE rfl):DI X tg (.Call (.Name "range" p) [a] [] pos) (gk (aa fa ah)):=di_range1 hg hm (d1 ha hs) hs
end
theorem sA (hN:X.N.Nodup) (he:DE X e f) (hi:X.N[i]?=some x:=by rfl) (hx:Loc X.env.scope x:=by first | exact .inl rfl | exact .inr rfl) (hs:swapsWith e (some (.Name x pos')) pos.line X.env=pure false:=by rfl)
 (hf:X.fn x=true∨X.env.scope.names.lookup x=some .local:=by first | exact .inl rfl | exact .inr rfl | assumption):DS X (.Assign [.Name x pos'] e pos) (sset i f):=ds_set hN hi hx he hs hf
theorem i0 {t:DSt→Option Bool} (hc:DT X c t) (ha:DSs X body F):DS X (.If c body [] pos) (sif t F aN):=ds_if hc ha dss_nil
end
theorem _root_.L2.Un.slots {fs:List Addr} {H H':Hp} {h h1 h2 B:Heap} (u:Un fs [] H H' h h1) (k:B.StaysIn h1) (hB:B.StaysIn h2) (up:h1.UpToSlots h2)
  (old:∀ b o,h.get? b=some o→b∉fs→∃ o',B.get? b=some o') (nf:∀ b∈fs,∀ o,h1.get? b=some o→∀ vs,o.data≠.fields vs):Un fs [] H H' h h2 where
 keep:=fun b o q n hb hx=>by
  obtain ⟨o',z⟩:=old b o q hb
  have e:=k b o' z
  rw [u.keep b o q n hb hx] at e;cases e
  exact hB b o z
 slot:=fun b o q n hb hx=>by
  obtain ⟨sl,e⟩:=u.slot b o q n hb hx
  obtain ⟨sl',e'⟩:=up b _ e (nf b hb _ e)
  exact ⟨sl',e'⟩
 free:=u.free
 there:=fun b o q hx=>by
  by_cases hb:b∈fs
  ·
   obtain ⟨o',e⟩:=u.there b o q hx
   obtain ⟨sl,e'⟩:=up b _ e (nf b hb _ e)
   exact ⟨_,e'⟩
  ·
   obtain ⟨o',z⟩:=old b o q hb
   exact ⟨o',hB b o' z⟩
 tups:=u.tups
 frzs:=u.frzs
 tbls:=u.tbls
theorem _root_.L2.HOk.slots {P:Program} {w:World} {H:Hp} {h1 h2 B:Heap} (x:HOk P w H h1) (k:B.StaysIn h1) (hB:B.StaysIn h2) (tr:∀ b u,H b=some u→∃ o',B.get? b=some o'):HOk P w H h2:=fun a o e=>
 (x a o e).stay (fun b u hb q=>by
  obtain ⟨o',z⟩ : ∃ o',B.get? b=some o':=by
   rcases hb with rfl | hb
   ·
    exact tr _ _ e
   ·
    exact tr _ _ hb
  have e':=k b o' z
  rw [q] at e';cases e'
  exact hB b u z) (fun _ q=>q) fun _ _ q=>q
theorem _root_.L2.HOk.there {P:Program} {w:World} {H:Hp} {h:Heap} {a:Addr} {o:HO} (x:HOk P w H h) (e:H a=some o):∃ u,h.get? a=some u:=by
 have lt:=x.lt e
 cases q:h.get? a with
 | some u=>exact ⟨u,rfl⟩
 | none=>
  have k:∀ o:HO,bE P w H h a o→∃ u,h.get? a=some u:=by
   intro o
   induction o with
   | lst xs=>rintro ⟨_,_,_,_,e⟩;exact ⟨_,e⟩
   | tup xs=>rintro ⟨_,_,_,ob,e,_⟩;exact ⟨_,e⟩
   | dK kvs=>rintro ⟨_,_,_,_,ob,es,ep,e,_⟩;exact ⟨_,e⟩
   | dT kvs=>rintro ⟨_,_,_,_,ob,es,ep,e,_⟩;exact ⟨_,e⟩
   | set S n=>rintro ⟨ob,es,ep,t,e,_⟩;exact ⟨_,e⟩
   | ins C dx fs=>rintro ⟨_,_,_,e,_⟩;exact ⟨_,e⟩
   | own _=>rintro ⟨ob,e⟩;exact ⟨_,e⟩
   | xd fs=>rintro ⟨_,⟨_,_,_,e,_⟩,_⟩;exact ⟨_,e⟩
   | rng lo hi=>rintro ⟨_,_,_,e⟩;exact ⟨_,e⟩
   | frz o u ih=>rintro ⟨e,_⟩;exact ⟨_,e⟩
   | tbl ps=>intro e;exact ⟨_,e⟩
   | met f x=>intro e;exact ⟨_,e⟩
   | ext φ=>rintro ⟨_,e,_⟩;exact e
  obtain ⟨u,hu⟩:=k o (x a o e)
  rw [q] at hu;cases hu
section
variable {M:Model} {A:Around} {E:Value→Shared→Prop} {s:Shared} {base:Heap} {hb:Option Addr} {env:Env} {outer l:List Env} {L e:Addr} {cls fl:Value} {Q:Unit→Shared→Prop}
def Ch (base:Heap) (hb:Option Addr) (vs:Array Value):Prop:=vs[2]?=some .none∨∃ h2 o2 v2,hb=some h2∧vs[2]?=some (.ref h2)∧base.get? h2=some o2∧o2.data=.fields v2∧v2[2]?=some .none
theorem Ch.lt {base:Heap} {hb:Option Addr} {vs:Array Value} (h:Ch base hb vs):2<vs.size:=by
 rcases h with h | ⟨_,_,_,_,h,_⟩ <;> exact (Array.getElem?_eq_some_iff.mp h).1
theorem Ch.set1 {base:Heap} {hb:Option Addr} {vs:Array Value} {x:Value} (h:Ch base hb vs):Ch base hb (vs.setIfInBounds 1 x):=by
 unfold Ch
 rw [Array.getElem?_setIfInBounds_ne (by decide)]
 exact h
def cV (base:Heap) (hb:Option Addr) (l:List Env) (e:Addr) (cls fl:Value) (h:Heap):Prop:=base.StaysIn h∧base.get? e=none∧h.FunFrames base l∧
 ∃ oe vs T oT ts,h.get? e=some oe∧oe.cls=cls∧Ch base hb vs∧oe.data=.fields vs∧vs[1]?=some (.ref T)∧base.get? T=none∧T≠e∧h.get? T=some oT∧oT.data=.fields ts∧ts[3]?=some fl
theorem cV.ex {h:Heap} (x:cV base hb l e cls fl h):∃ oe vs,h.get? e=some oe∧oe.cls=cls∧Ch base hb vs∧oe.data=.fields vs:=
 let ⟨_,_,_,oe,vs,_,_,_,h1,h2,h3,h4,_⟩:=x
 ⟨oe,vs,h1,h2,h3,h4⟩
theorem cV.out {h:Heap} (x:cV base hb (env::l) e cls fl h):cV base hb l e cls fl h:=
 let ⟨a,b,⟨_,_,c⟩,d⟩:=x
 ⟨a,b,c,d⟩
theorem entry2 {oe:Obj} {vs:Array Value} {head:Value} {hadNext:Bool}
  (hfr:A.frames=some (env::outer)) (hl:s.heap.FunFrames base (env::outer)) (hf:env.frame=some L)
  (he:s.heap.get? e=some oe) (hkb:base.StaysIn s.heap) (hen:base.get? e=none) (hd:oe.data=.fields vs) (h2:Ch base hb vs)
  (h:∀ h',cV base hb (env::outer) e oe.cls (rawInt L) h'→s.heap.UpToSlots h'→Q () { s with heap:=h' }) :
  wpAny M A (do let a ←frameOf env;let pl ←entryPlaceOf L hadNext;let b ←EntryCells.newEntry head a .none (rawInt L) .none pl;setField (.ref e) 1 b) Q E s:=by
 have z2:2<vs.size:=h2.lt
 have nr:∀ b o,s.heap.get? b=some o→(∀ vs,o.data≠.fields vs)→b≠e:=fun b o hb n q=>by
  rw [q,he] at hb;cases hb;exact n vs hd
 refine wpAny_bind (wpAny_frameOf_fun hfr hl hf fun h₁ hs₁=>wpAny_bind (wpAny_entryPlaceOf fun pl hpl=>?_))
 unfold EntryCells.newEntry newFields
 refine wpAny_bind (wpAny_newObj_type ?_ (hpl.sizeOk5 _ _ _ _ _))
 have e1:h₁.get? e=some oe:=(hs₁.2.1 e fun hm=>by
  obtain ⟨_,o,ho,n⟩:=hl.mem hm
  exact nr e o ho n rfl).trans he
 have e2:=Heap.get?_push_of_some (h:=h₁) { cls:=.type "traceback",dict:=none,data:=.fields ([head,.ref L,.none,rawInt L,.none]++(if pl.isEmpty then List.replicate 6 Value.none else pl)).toArray } e1
 refine wpAny_setField e2 hd (Nat.lt_of_succ_lt z2) (h _ ?_ ?_)
 all_goals
  have d3:=Obj.data_mapFields hd (·.setIfInBounds 1 (Value.ref h₁.objs.size))
  have te:h₁.objs.size≠e:=Nat.ne_of_gt (Heap.lt_size e1)
  have kp:∀ b o,b≠e→h₁.get? b=some o→((h₁.push { cls:=.type "traceback",dict:=none,data:=.fields ([head,.ref L,.none,rawInt L,.none]++(if pl.isEmpty then List.replicate 6 Value.none else pl)).toArray }).update e (Obj.mapFields (·.setIfInBounds 1 (Value.ref h₁.objs.size)))).get? b=some o:=fun b o hbe hb=>by
   rw [Heap.get?_update_other _ _ (Ne.symm hbe)]
   exact Heap.get?_push_of_some _ hb
 ·
  have kb:base.StaysIn h₁:=fun b o hbo=>(hs₁.2.1 b fun hm=>by rw [(hl.mem hm).1] at hbo;cases hbo).trans (hkb b o hbo)
  refine ⟨fun b o hbo=>kp b o (fun q=>by rw [q,hen] at hbo;cases hbo) (kb b o hbo),hen,hl.of_keeps fun b o hb n=>?_,_,_,_,_,_,Heap.get?_update_self _ e2 (Obj.isFreed_of_fields d3),Obj.cls_mapFields _ _,?_,d3,?_,kb.fresh,te,(Heap.get?_update_other _ _ (Ne.symm te)).trans (Heap.get?_push_size h₁ rfl),rfl,?_⟩
  ·
   obtain ⟨sl,hs⟩:=hs₁.2.2 b o hb
   exact ⟨_,kp b _ (nr b o hb n) hs,rfl⟩
  ·
   exact h2.set1
  ·
   simp [Nat.lt_of_succ_lt z2]
  ·
   rcases hpl with rfl | ⟨_,_,_,_,_,_,_,rfl⟩ <;> simp
 ·
  intro b o hb n
  obtain ⟨sl,hs⟩:=hs₁.2.2 b o hb
  exact ⟨sl,kp b _ (nr b o hb n) hs⟩
theorem note2 (hfr:A.frames=some (env::outer)) (hf:env.frame=some L) (x:cV base hb (env::outer) e cls fl s.heap)
  (h:∀ h',cV base hb (env::outer) e cls (rawInt L) h'→s.heap.UpToSlots h'→Q () { s with heap:=h' }):wpAny M A (noteFrame (.ref e) env) Q E s:=by
 obtain ⟨hkb,hen,hl,oe,vs,T,oT,ts,he,rfl,h2,hd,h1,hnT,hTe,hT,hdT,h3⟩:=x
 unfold noteFrame
 simp only [hf]
 refine wpAny_bind (wpAny_field he hd h1 ?_)
 rw [if_pos (show (Value.ref T != Value.none)=true from by simp)]
 refine wpAny_bind (wpAny_field hT hdT h3 ?_)
 by_cases hfl:(fl==rawInt L)=true
 ·
  rw [if_pos hfl]
  rw [beq_iff_eq.mp hfl] at h3
  exact wpAny_pure (h _ ⟨hkb,hen,hl,oe,vs,T,oT,ts,he,rfl,h2,hd,h1,hnT,hTe,hT,hdT,h3⟩ fun b o hb _=>⟨o.slots,hb⟩)
 rw [if_neg hfl]
 refine wpAny_bind (wpAny_setField hT hdT (Array.getElem?_eq_some_iff.mp h3).1 ?_)
 have ot:∀ b,b≠T→(s.heap.update T (Obj.mapFields (·.setIfInBounds 3 Value.none))).get? b=s.heap.get? b:=fun b hb=>Heap.get?_update_other _ _ (Ne.symm hb)
 have nr:∀ b o,s.heap.get? b=some o→(∀ vs,o.data≠.fields vs)→b≠T:=fun b o hb n q=>by
  rw [q,hT] at hb;cases hb;exact n ts hdT
 exact entry2 hfr (hl.of_keeps fun b o hb n=>⟨o,(ot b (nr b o hb n)).trans hb,rfl⟩) hf ((ot e (Ne.symm hTe)).trans he)
  (fun b o hbo=>(ot b fun q=>by rw [q,hnT] at hbo;cases hbo).trans (hkb b o hbo)) hen hd h2 fun h' x k=>h h' x fun b o hb n=>k b o ((ot b (nr b o hb n)).trans hb) n
theorem landF {fr:Option Addr} (x:cV base hb l e cls fl s.heap) (h:∀ h',cV base hb l e cls (fr.elim Value.none fun f=>rawInt f) h'→s.heap.UpToSlots h'→Q () { s with heap:=h' }):wpAny M A (setFlight (.ref e) fr) Q E s:=by
 obtain ⟨hkb,hen,hl,oe,vs,T,oT,ts,he,hc,h2,hd,h1,hnT,hTe,hT,hdT,h3⟩:=x
 have z3:3<ts.size:=(Array.getElem?_eq_some_iff.mp h3).1
 unfold setFlight
 refine wpAny_bind (wpAny_field he hd h1 ?_)
 rw [if_pos (show (Value.ref T != Value.none)=true from by simp)]
 have ot:∀ b,b≠T→(s.heap.update T (Obj.mapFields (·.setIfInBounds 3 (fr.elim Value.none fun f=>rawInt f)))).get? b=s.heap.get? b:=fun b hb=>Heap.get?_update_other _ _ (Ne.symm hb)
 have nr:∀ b o,s.heap.get? b=some o→(∀ vs,o.data≠.fields vs)→b≠T:=fun b o hb n q=>by
  rw [q,hT] at hb;cases hb;exact n ts hdT
 exact wpAny_setField hT hdT z3 (h _ ⟨fun b o hbo=>(ot b fun q=>by rw [q,hnT] at hbo;cases hbo).trans (hkb b o hbo),hen,hl.of_keeps fun b o hb n=>⟨o,(ot b (nr b o hb n)).trans hb,rfl⟩,
  oe,vs,T,_,_,(ot e (Ne.symm hTe)).trans he,hc,h2,hd,h1,hnT,hTe,Heap.get?_update_self _ hT (Obj.isFreed_of_fields (Obj.data_mapFields hdT _)),Obj.data_mapFields hdT _,by simp [z3]⟩
  fun b o hb n=>⟨o.slots,(ot b (nr b o hb n)).trans hb⟩)
theorem jk (x:cV base hb l e cls fl s.heap) (h:∀ h',cV base hb l e cls .none h'→s.heap.UpToSlots h'→Q () { s with heap:=h' }):wpAny M A (setFlight (.ref e) none) Q E s:=landF x h
theorem leave2 (hfr:A.frames=some (env::outer)) (hf:env.frame=some L) (x:cV base hb (env::outer) e cls fl s.heap)
  (h:∀ h',cV base hb outer e cls .none h'→s.heap.UpToSlots h'→Q () { s with heap:=h' }):wpAny M A (leaving env (.ref e)) Q E s:=
 wpAny_bind (note2 hfr hf x fun h1 x1 u1=>jk x1 fun h2 x2 u2=>h h2 x2.out (u1.trans u2))
theorem made2 {h0:Heap} {vs:List Value} (hfr:A.frames=some (env::outer)) (hf:env.frame=some L) (hkb:base.StaysIn h0) (hl:h0.FunFrames base (env::outer)) (hx:Heap.MadeExcOf h0 s.heap e cls vs)
  (h:∀ h',cV base hb outer e cls .none h'→s.heap.UpToSlots h'→Q () { s with heap:=h' }):wpAny M A (leaving env (.ref e)) Q E s:=by
 obtain ⟨t,he,_,_⟩:=hx.there
 have hen:base.get? e=none:=by
  cases hq:base.get? e with
  | none=>rfl
  | some o=>have:=hkb e o hq;rw [hx.new] at this;cases this
 unfold leaving noteFrame
 simp only [hf]
 refine wpAny_bind (wpAny_bind (wpAny_field he rfl (x:=.none) rfl ?_))
 rw [if_neg (by decide)]
 exact entry2 hfr (hl.of_keeps fun b o hb _=>⟨o,hx.keeps b o hb,rfl⟩) hf he (fun b o hb=>hx.keeps b o (hkb b o hb)) hen rfl (.inl rfl) fun h1 x1 u1=>jk x1 fun h2 x2 u2=>h h2 x2.out (u1.trans u2)
end
section
variable {prog:Program} {w:World} {A:Around} {E:Value→Shared→Prop} {s:Shared}
theorem fK:entryFor table "proto.unchain" = some Builtin.«proto.unchain»:=entryFor_of_fast (by kernel_rfl)
def Chp (P:List (Addr×Obj)) (vs:Array Value):Prop:=vs[2]?=some .none∨∃ h2 o2 v2,vs[2]?=some (.ref h2)∧(h2,o2)∈P∧o2.data=.fields v2∧v2[2]?=some .none
theorem iG {P:List (Addr×Obj)} {ex e:Addr} {ox:Obj} {vs:Array Value} {R:Result→Shared→Prop} (hx:s.heap.get? ex=some ox) (hf:ox.data=.fields vs) (h2:Chp P vs) (hP:∀ p∈P,s.heap.get? p.1=some p.2∧p.1≠ex∧p.1≠e) (h:R (.ok (.ret .none)) s) :
  codeAny (model prog w) A (.builtin "proto.unchain" ⟨[.ref e,.ref ex,.ref ex,.bool false],[]⟩) R s:=by
 refine codeAny_builtin fK ?_
 rcases h2 with h2 | ⟨b,o2,v2,h2,hm,hd,h3⟩
 ·
  refine wpAny_bind (wpAny_field hx hf h2 ?_)
  exact (show wpAny _ _ (ret .none) _ _ _ from wpAny_pure h)
 ·
  obtain ⟨g,n1,n2⟩:=hP _ hm
  refine wpAny_bind (wpAny_field hx hf h2 ?_)
  rw [if_neg (by simp),if_neg (by simpa using n2),if_neg (by simpa using n1)]
  dsimp only
  rw [if_neg Bool.false_ne_true]
  refine wpAny_bind (wpAny_pure ?_)
  refine (show wpAny _ _ (again (.builtin "proto.unchain" ⟨[.ref e,.ref b,.ref ex,.bool true],[]⟩)) _ _ _ from wpAny_pure ⟨Code.quiet_builtin _ (by decide +kernel),codeAny_builtin fK ?_⟩)
  refine wpAny_bind (wpAny_field g hd h3 ?_)
  exact (show wpAny _ _ (ret .none) _ _ _ from wpAny_pure h)
theorem list_end2 {it l ex:Addr} {i:Nat} {items} {ox:Obj} {vs:Array Value} {Q:Option Value→Shared→Prop} (hh:A.handled=some (.ref ex)) {P:List (Addr×Obj)} (hx:s.heap.get? ex=some ox) (hf:ox.data=.fields vs) (h2:Chp P vs) (hP:∀ p∈P,s.heap.get? p.1=some p.2∧p.1≠ex∧p.1≠it) (hne:ex≠it)
  (hit:s.heap.IsListIter it l i) (hl:s.heap.IsList l items) (hxx:items[i]?=none)
  (hQ:∀ h',Heap.ExtBut it s.heap h'→Q none { s with heap:=h' }):wpAny (model prog w) A (pyNext (.ref it)) Q E s:=by
 obtain ⟨o,ho,hc,hd⟩:=id hit
 obtain ⟨ol,hol,_,nl,hdl⟩:=hl
 unfold pyNext
 refine wpAny_bind (wpAny_attempt (wpAny_callSpecial?_slot (name:=Str.ofString "__next__") hit.typeIs slot_listiter_next
  (wpAny_call_entry slot_listiter_next hit.typeIs entry_listiter_next ?_ (args_listiter_next _))))
 show wpAny _ _ (field (.ref it) 0 >>= _) _ _ s
 refine wpAny_bind (wpAny_field ho hd (x:=.ref l) rfl ?_)
 show wpAny _ _ (if (Value.ref l==Value.none)=true then _ else _) _ _ s
 rw [if_neg (show ¬((Value.ref l==Value.none)=true) from Bool.false_ne_true)]
 show wpAny _ _ (field (.ref it) 1 >>= _) _ _ s
 refine wpAny_bind (wpAny_field ho hd (x:=.int i 0) rfl ?_)
 show wpAny _ _ (seqItems? (.ref l) >>= _) _ _ s
 refine wpAny_bind (wpAny_seqItems hol hdl ?_)
 simp only [Int.toNat_natCast,hxx]
 refine wpAny_bind (wpAny_rule (wpAny_bind (wpAny_setField ho hd (by simp) ?_)))
 show wpAny _ _ (newExc (.type "StopIteration") [] >>= _) _ _ _
 refine wpAny_bind ?_
 simp only [newExc,newTuple]
 refine wpAny_bind (wpAny_newObj_type ?_ (by size_fits))
 refine wpAny_bind (m:=firstArgMember _ _) (wpAny_of_eq (a:=Value.none) (by first | rfl | (simp only [firstArgMember];rfl)) ?_)
 refine wpAny_newObj_type ?_ (by size_fits)
 simp only [raiseNew]
 refine wpAny_bind (wpAny_handled ?_)
 rw [show A.in1.handled=some (.ref ex) from hh]
 generalize hg:s.heap.update it _=h1
 have x1:h1.get? ex=some ox:=by rw [←hg];exact (Heap.get?_update_other _ _ (Ne.symm hne)).trans hx
 have eb:Heap.ExtBut it s.heap h1:=by rw [←hg];exact (Heap.SameBut.update ..).extBut
 have x3:∀ o1 o2,((h1.push o1).push o2).get? ex=some ox:=fun o1 o2=>Heap.get?_push_of_some _ (Heap.get?_push_of_some _ x1)
 have ne3:ex≠h1.objs.size+1:=Nat.ne_of_lt (Nat.lt_succ_of_lt (Heap.lt_size x1))
 dsimp only
 rw [if_pos (by simpa using ne3)]
 refine wpAny_bind (wpAny_holding (wpAny_runValue (iG (x3 _ _) hf h2 (fun p hp=>?_) ?_)))
 ·
  obtain ⟨q1,q2,q3⟩:=hP p hp
  have q4:=eb p.1 p.2 q3 q1
  exact ⟨Heap.get?_push_of_some _ (Heap.get?_push_of_some _ q4),q2,Nat.ne_of_lt (Heap.lt_size (Heap.get?_push_of_some _ q4))⟩
 have g3:=Heap.get?_push_size (h1.push { cls:=.type "tuple",data:=.seq #[] }) (o:={ cls:=.type "StopIteration",data:=.fields (#[.ref h1.objs.size,.none,.none,.none,.bool false,.none]++ownMembersOf (.type "StopIteration") []) }) rfl
 refine wpAny_bind (show wpAny _ _ (setField (.ref _) 2 (.ref ex)) _ _ _ from wpAny_setField g3 rfl (show 2<6 by decide) (wpAny_throw ?_))
 refine wpAny_bind (wpAny_isInstance (T:="StopIteration") (b:=true) ⟨_,Heap.get?_update_self _ g3 rfl,rfl⟩ isSubtype_stop ?_)
 refine wpAny_pure (hQ _ fun b o hb q=>?_)
 have q1:=eb b o hb q
 rw [Heap.get?_update_other _ _ (Ne.symm (Nat.ne_of_lt (Heap.lt_size (Heap.get?_push_of_some _ q1))))]
 exact Heap.get?_push_of_some _ (Heap.get?_push_of_some _ q1)
theorem walk2 (ex:Addr) (hh:A.handled=some (.ref ex)) (ox:Obj) (vs:Array Value) (P:List (Addr×Obj)) (hf:ox.data=.fields vs) (h2:Chp P vs) (I ax:Addr) (hne:ax≠I) (hxe:ex≠I) (hP:∀ p∈P,p.1≠ex∧p.1≠I) (items:Array Value) :
  Walks prog w A I (I::ax::ex::P.map (·.1)) [I] items.size (fun i v=>items[i]?=some v) (fun i h=>(h.IsListIter I ax i∧h.IsList ax items)∧h.get? ex=some ox∧∀ p∈P,h.get? p.1=some p.2) where
 sub:=fun b hb=>by simp at hb;simp [hb]
 frame:=fun _ _ _ st hk=>⟨⟨st.1.1.at fun o e=>hk I (by simp) o e,st.1.2.at fun o e=>hk ax (by simp) o e⟩,hk ex (by simp) _ st.2.1,fun p hp=>hk p.1 (.tail _ (.tail _ (.tail _ (List.mem_map_of_mem hp)))) _ (st.2.2 p hp)⟩
 item:=fun i s Q E hi st hQ=>by
  refine wpAny_pyNext_list_item st.1.1 st.1.2 (x:=items[i]) (by simp [hi]) fun h' hit' hs'=>?_
  exact hQ _ h' s.toks (by simp [hi]) ⟨⟨hit',st.1.2.extBut hs'.extBut hne⟩,hs'.extBut ex _ hxe st.2.1,fun p hp=>hs'.extBut p.1 _ (hP p hp).2 (st.2.2 p hp)⟩ fun b o hb e=>hs'.extBut b o (fun h=>hb (by simp [h])) e
 done:=fun s Q E st hQ=>list_end2 hh st.2.1 hf h2 (fun p hp=>⟨st.2.2 p hp,(hP p hp).1,(hP p hp).2⟩) hxe st.1.1 st.1.2 (by simp) fun h' he'=>hQ h' s.toks fun b o hb e=>he' b o (fun h=>hb (by simp [h])) e
 self:=fun _ _ _ _ st hQ=>wpAny_pyIter_listiter st.1.1 hQ
end
structure Flies (P:Program) (w:World) (outer:List Env) (H:Hp) (s:Shared) (H':Hp) (ea C:Addr) (hb:Option Addr) (fl:Value) (ch:List Addr) (s':Shared):Prop where
 os:s'.os=s.os
 bare:AllBare s'.gens
 un:Un (frs outer) ch H H' s.heap s'.heap
 hok:HOk P w H' s'.heap
 fly:∃ B,cV B hb outer ea (.ref C) fl s'.heap∧(∀ b o,s.heap.get? b=some o→b∉frs outer→b∉ch→∃ o',B.get? b=some o')∧(∀ b u,H' b=some u→∃ o',B.get? b=some o')∧∀ b,hb=some b→H' b=none
def CXr (P:Program) (w:World):CXT:=fun outer H s E e s'=>∃ ea C H' hb,e=.ref ea∧Flies P w outer H s H' ea C hb .none [] s'∧E (.ref C) hb H'
def al (E:XK):XK:=fun v _ H=>∀ f,E v f H
structure XR (X:Cx) (E:XK):Prop where
 made:∀ (pins:List (Addr×Obj)) (σ:St) (H:Hp) (s:Shared) (e C:Addr) (vs:List Value) (h':Heap),Inv X pins σ H s→Heap.MadeExcOf s.heap h' e (.ref C) vs→E (.ref C) none H→X.xe (.ref e) { s with heap:=h' }
 held:∀ (pins:List (Addr×Obj)) (σ:St) (H:Hp) (s:Shared) (ea C:Addr) (H':Hp) (hb:Option Addr) (fl:Value) (ch:List Addr) (s':Shared),Inv X pins σ H s→Flies X.prog X.w X.stack H s H' ea C hb fl ch s'→(∀ b∈ch,X.s₀.heap.get? b=none)→E (.ref C) hb H'→X.xe (.ref ea) s'
theorem XR.pass {X:Cx} {E:XK} (h:XR X E):bW (CXr X.prog X.w) X E:=fun pins σ H s e s' I ⟨ea,C,H',hb,e1,q,hE⟩=>by
 subst e1
 exact h.held pins σ H s ea C H' hb _ _ s' I q (by simp) hE
theorem xr_al {X:Cx} {E:XK} (h:XR X E):XR X (al E):=
 ⟨fun pins σ H s e C vs h' I m q=>h.made pins σ H s e C vs h' I m (q _),fun pins σ H s ea C H' hb fl ch s' I f c q=>h.held pins σ H s ea C H' hb fl ch s' I f c (q _)⟩
theorem hid {X:Cx} {pins:List (Addr×Obj)} {σ:St} {H:Hp} {s:Shared} (I:Inv X pins σ H s):∃ B:Heap,B.StaysIn s.heap∧s.heap.FunFrames B X.stack∧∀ b o,s.heap.get? b=some o→b∉frs X.stack→B.get? b=some o:=
 ⟨hideAll s.heap (frs X.stack),fun b o q=>of_hideAll _ q,PySem.W.funFrames_hide I.stack fun env he b hb=>List.mem_filterMap.mpr ⟨env,he,hb⟩,fun b o q n=>hideAll_get _ q n⟩
theorem young {X:Cx} {pins:List (Addr×Obj)} {σ:St} {H:Hp} {s:Shared} (I:Inv X pins σ H s) {b:Addr} {o:Obj} (q:X.s₀.heap.get? b=some o) (hb:b∉X.fs):b∉frs X.stack:=fun hm=>by
 rcases List.mem_cons.mp (I.stkSub b hm) with z | z
 ·
  have h:=Nat.lt_of_lt_of_le (Heap.lt_size q) I.ok.above
  rw [z] at h
  exact absurd h (Nat.lt_irrefl _)
 ·
  exact hb z
section
variable {P:Program} {w:World} {K:Frag} {mg:Str→Option Value} {base:Heap} {N:List Str} {qual:Str} {scope:Scope} {f:Addr} {cd:Value} {A:Around} {outer:List Env} {s0:Shared} {H0:Hp} {E:XK}
theorem eU:XR (dP (CXr P w) P w K mg base N qual scope f cd A outer s0 H0 E) E where
 made:=fun pins σ H s e C vs h' I hx hE=>by
  obtain ⟨B,hB,FF,gB⟩:=hid I
  refine made2 (hb:=none) I.ok.frames rfl hB FF hx fun h'' fl up=>?_
  have un0:Un (frs outer) [] H0 H s0.heap s.heap:=I.base
  have old:∀ b o,s0.heap.get? b=some o→b∉frs outer→∃ o',B.get? b=some o':=fun b o q hb=>by
   obtain ⟨o1,e1⟩:=un0.there b o q (by simp)
   exact ⟨o1,gB b o1 e1 (young I q hb)⟩
  have tr:∀ b u,H b=some u→∃ o',B.get? b=some o':=fun b u q=>by
   obtain ⟨o1,e1⟩:=I.hok.there q
   exact ⟨o1,gB b o1 e1 fun hm=>by have:=I.stkFree b hm;rw [q] at this;cases this⟩
  refine ⟨e,C,H,none,rfl,⟨I.os,I.bare,un0.slots hB fl.1 ((Heap.UpToSlots.of_keeps hx.keeps).trans up) old fun b hb o q=>?_,I.hok.slots hB fl.1 tr,B,fl,(fun b o q n _=>old b o q n),tr,(fun _ z=>by cases z)⟩,hE⟩
  obtain ⟨_,o',ho',hd⟩:=I.funs.mem hb
  rw [q] at ho';cases ho'
  exact hd
 held:=fun pins σ H s ea C H' hb fl0 ch s' I h hch hE=>by
  obtain ⟨os,bare,un,hok,B,fl,old,tr,nb⟩:=h
  have nch:∀ b o,s0.heap.get? b=some o→b∉ch:=fun b o q hm=>by
   have z:s0.heap.get? b=none:=hch b hm
   rw [q] at z;cases z
  refine leave2 I.ok.frames rfl fl fun h'' fl' up=>?_
  have un0:Un (frs outer) [] H0 H s0.heap s.heap:=I.base
  have old':∀ b o,s0.heap.get? b=some o→b∉frs outer→∃ o',B.get? b=some o':=fun b o q hb=>by
   obtain ⟨o1,e1⟩:=un0.there b o q (by simp)
   exact old b o1 e1 (young I q hb) (nch b o q)
  have sub:∀ b∈frs outer,b∈frs (dP (CXr P w) P w K mg base N qual scope f cd A outer s0 H0 E).stack:=fun b hb=>by
   obtain ⟨env,he,hf⟩:=List.mem_filterMap.mp hb
   exact List.mem_filterMap.mpr ⟨env,.tail _ he,hf⟩
  have un1:Un (frs outer) [] H0 H' s0.heap s'.heap:=by
   refine ⟨fun b o q n hb hx=>un.keep b o (un0.keep b o q n hb hx) (un0.free b o q n hx) (young I q hb) (nch b o q),fun b o q n hb hx=>?_,fun b o q n hx=>?_,fun b o q hx=>?_,fun b xs q=>un.tups b xs (un0.tups b xs q),fun b o u q=>un.frzs b o u (un0.frzs b o u q),fun b ps q=>?_⟩
   ·
    obtain ⟨sl,e1⟩:=un0.slot b o q n hb hx
    obtain ⟨sl',e2⟩:=un.slot b _ e1 (un0.free b o q n hx) (sub b hb) (nch b o q)
    exact ⟨sl',e2⟩
   ·
    obtain ⟨o1,e1⟩:=un0.there b o q hx
    exact un.free b o1 e1 (un0.free b o q n hx) (nch b o q)
   ·
    obtain ⟨o1,e1⟩:=un0.there b o q hx
    exact un.there b o1 e1 (nch b o q)
   ·
    obtain ⟨m1,e1⟩:=un0.tbls b ps q
    obtain ⟨m2,e2⟩:=un.tbls b _ e1
    exact ⟨m1++m2,by rw [e2,Array.append_assoc]⟩
  refine ⟨ea,C,H',hb,rfl,⟨os.trans I.os,bare,un1.slots fl.1 fl'.1 up old' fun b hb o q=>?_,hok.slots fl.1 fl'.1 tr,B,fl',(fun b o q n _=>old' b o q n),tr,nb⟩,hE⟩
  obtain ⟨_,o',ho',hd⟩:=fl.2.2.1.mem (sub b hb)
  rw [q] at ho';cases ho'
  exact hd
end
def tX (E:XK) (H0 Hs0:Hp) (G:DSt→Option Addr):TS:=fun _ σ H=>∃ Hs δ C,Wd H0 Hs0 Hs H∧StR H0 Hs H δ σ∧G δ=some C∧∀ Hs' H',Wd H0 Hs0 Hs' H'→E (.ref C) none H'
structure DX (X:Cx) (E:XK) (st:Stmt) (G:DSt→Option Addr):Prop where
 go:∀ H0 Hs0,PS X st (tX E H0 Hs0 G)
structure DXs (X:Cx) (E:XK) (st:List Stmt) (G:DSt→Option Addr):Prop where
 go:∀ H0 Hs0,PSs X st (tX E H0 Hs0 G)
def xor (G1 G2:DSt→Option Addr):DSt→Option Addr:=fun δ=>(G1 δ).or (G2 δ)
def fE (F:FS) (G:DSt→Option Addr):DSt→Option Addr:=fun δ=>(F δ).bind fun r=>match r with
 | .nx δ1=>G δ1
 | _=>none
def xif (t:DSt→Option Bool) (G1 G2:DSt→Option Addr):DSt→Option Addr:=fun δ=>(t δ).bind fun b=>if b=true then G1 δ else G2 δ
def xno:DSt→Option Addr:=fun _=>none
section
variable {X:Cx} {E:XK} {st:Stmt} {rest:List Stmt} {F:FS} {G G1 G2:DSt→Option Addr} {pos:Pos}
theorem gM:DXs X E rest xno:=.mk fun H0 Hs0=>fun pins s σ H D I ⟨_,_,_,_,_,e,_⟩=>by cases e
theorem aZ (h:DX X E st G):DXs X E (st::rest) G:=.mk fun H0 Hs0=>fun pins s σ H D I q=>
 wpAny_execs_cons (thn ((h.go H0 Hs0) pins s σ H { nx:=fun _ _=>False,rt:=fun _ _=>False } I q) fun f s1 z=>by
  cases f with
  | next=>obtain ⟨_,_,_,q⟩:=z;exact q.elim
  | ret v=>obtain ⟨_,_,_,_,_,q⟩:=z;exact q.elim
  | brk=>obtain ⟨_,_,_,q⟩:=z;exact q.elim
  | cont=>obtain ⟨_,_,_,q⟩:=z;exact q.elim)
theorem cD (h1:DS X st F) (h2:DXs X E rest G):DXs X E (st::rest) (fE F G):=.mk fun H0 Hs0=>(kd (h1.go H0 Hs0) (h2.go H0 Hs0)).weak fun D σ H ⟨Hs,δ,C,W,S,e,P⟩=>by
 unfold fE at e
 cases ef:F δ with
 | none=>rw [ef] at e;cases e
 | some r=>
  rw [ef] at e
  match r,e with
  | .nx δ1,e=>exact ⟨Hs,δ,.nx δ1,W,S,ef,fun σ1 Hs1 H1 W1 S1=>⟨Hs1,δ1,C,W1,S1,e,P⟩⟩
theorem gN (h1:DXs X E rest G1) (h2:DXs X E rest G2):DXs X E rest (xor G1 G2):=.mk fun H0 Hs0=>fun pins s σ H D I ⟨Hs,δ,C,W,S,e,P⟩=>by
 unfold xor at e
 cases e1:G1 δ with
 | some C1=>
  rw [e1] at e;cases e
  exact (h1.go H0 Hs0) pins s σ H D I ⟨Hs,δ,_,W,S,e1,P⟩
 | none=>
  rw [e1] at e
  exact (h2.go H0 Hs0) pins s σ H D I ⟨Hs,δ,_,W,S,e,P⟩
theorem jl {c:Expr} {a b:List Stmt} {t:DSt→Option Bool} (hc:DT X c t) (ha:DXs X E a G1) (hb:DXs X E b G2):DX X E (.If c a b pos) (xif t G1 G2):=.mk fun H0 Hs0=>
 (ps_if hc.go (ha.go H0 Hs0) (hb.go H0 Hs0)).weak fun D σ H ⟨Hs,δ,C,W,S,e,P⟩=>by
  unfold xif at e
  cases et:t δ with
  | none=>rw [et] at e;cases e
  | some k=>
   rw [et] at e
   refine ⟨Hs,δ,k,W.sub,S.ent,et,fun Hs1 H1 W1=>?_⟩
   cases k with
   | true=>rw [if_pos rfl];exact ⟨Hs1,δ,C,W.trans W1,S.mono W1,e,P⟩
   | false=>rw [if_neg Bool.false_ne_true];exact ⟨Hs1,δ,C,W.trans W1,S.mono W1,e,P⟩
def spX (n:Nat) (m:List D→Option Addr):Sp:=fun vs H _ E=>∃ Hs ds C,ds.length=n∧aB Hs H∧av Hs ds vs∧m ds=some C∧∀ Hs' H',Wd H Hs Hs' H'→E (.ref C) none H'
def spXa (n:Nat) (m:List D→Option Addr):Sp:=fun vs H Q E=>spX n m vs H Q (al E)
theorem spX_len {n:Nat} {m:List D→Option Addr} {vs:List V} {H:Hp} {Q:VK} {E:XK} (h:spX n m vs H Q E):vs.length=n:=by
 obtain ⟨Hs,ds,d,e,_,r,_⟩:=h
 rw [r.length,e]
def gO (k:Nat) (G:DSt→Option Addr) (ds:List D):Option Addr:=G (ds.map (fun d=>some (.sh d))++List.replicate (k-ds.length) none)
def aY (n:Nat) (m:List D→Option Addr) (fa:DSt→Option (List R)):DSt→Option Addr:=fun δ=>(fa δ).bind fun rs=>if rs.length=n∧bD rs=true then m (rs.map R.view) else none
end
section
variable {P:Program} {w:World} {K:Frag} {mg:Str→Option Value} {base:Heap}
theorem fn_X {x qual:Str} {st:Stmt} {f:Addr} {fd:FuncData} {N ps:List Str} {k:Nat} {G:DSt→Option Addr} (F0:Fun K x qual st f fd) (S:bU N ps (defScope st))
  (h:∀ (cdv:Value) (A:Around) (outer:List Env) (s:Shared) (H:Hp) (E:XK),aQ k (A.deeper (envOfC qual (defScope st) s.heap.objs.size f cdv))→DXs (dP (CXr P w) P w K mg base N qual (defScope st) f cdv A outer s H E) E (defBody st) G) :
  bO P w K mg base (CXr P w) (k+1) f fd ps (spX ps.length (gO N.length G)):=by
 obtain ⟨oc,od,kV,doc,pm,an,cdv,ct,osl,rfl,lk,hcd⟩:=F0.ex
 refine fn_of lk hcd S (fun vs H Q E hs=>spX_len hs) fun A outer s H vs Q E hr hs=>?_
 obtain ⟨Hs,ds,C,hl,sub,r,em,post⟩:=hs
 exact ⟨_,(h cdv A outer s H E hr).go H Hs,Hs,_,C,.refl sub,gl r,em,post⟩
end
section
variable {P:Program} {w:World} {K:Frag} {mg:Str→Option Value} {base:Heap}
theorem fn_Xa {x qual:Str} {st:Stmt} {f:Addr} {fd:FuncData} {N ps:List Str} {k:Nat} {G:DSt→Option Addr} (F0:Fun K x qual st f fd) (S:bU N ps (defScope st))
  (h:∀ (cdv:Value) (A:Around) (outer:List Env) (s:Shared) (H:Hp) (E:XK),aQ k (A.deeper (envOfC qual (defScope st) s.heap.objs.size f cdv))→DXs (dP (CXr P w) P w K mg base N qual (defScope st) f cdv A outer s H E) (al E) (defBody st) G) :
  bO P w K mg base (CXr P w) (k+1) f fd ps (spXa ps.length (gO N.length G)):=by
 obtain ⟨oc,od,kV,doc,pm,an,cdv,ct,osl,rfl,lk,hcd⟩:=F0.ex
 refine fn_of lk hcd S (fun vs H Q E hs=>spX_len hs) fun A outer s H vs Q E hr hs=>?_
 obtain ⟨Hs,ds,C,hl,sub,r,em,post⟩:=hs
 exact ⟨_,(h cdv A outer s H E hr).go H Hs,Hs,_,C,.refl sub,gl r,em,post⟩
end
theorem jm {K:Frag} {h:Heap} {C:Addr} {bmB:List Value} {newId:String} (X:K.In h) (q:excIn K C bmB newId=true) :
  ∃ bm N nm qn bs hdct sn sub ab col dd k0 k1 k2 k3 k5 mN,h.get? C=some (excClassObj nm qn C N bs bm hdct sn sub ab col dd k0 k1 k2 k3 k5 newId)∧h.Ns N mN∧mN "__init__" = none∧OwnTail h bmB bm:=by
 unfold excIn at q
 split at q
 case h_2=>cases q
 case h_1 dd cd sl ho=>
  split at q
  case h_2=>cases q
  case h_1 C' bm k0 k1 k2 k3 n k5 hm hs=>
   simp only [Bool.and_eq_true,beq_iff_eq,Bool.not_eq_true'] at q
   obtain ⟨⟨⟨⟨⟨e1,e2⟩,e3⟩,e4⟩,e5⟩,e6⟩:=q
   cases e1;cases e2
   cases cd
   cases sl
   simp only at hm e3 e5 e6 hs
   subst hm;subst e3;subst hs
   exact ⟨_,_,_,_,_,_,_,_,_,_,_,_,_,_,_,_,_,X _ _ ho,.of_isNs (PySem.W.isNs_of_in X e5),PySem.W.nsMap_none_of_in X e5 e6,PySem.W.tail_of_in X e4⟩
section
variable {X:Cx} {E:XK} {x:Str} {C:Addr} {B newId initId:String} {bm:List Value} {t:Str} {j} {np cp cpos pos:Pos}
theorem dI (hX:XR X E) (hm:X.mg x=some (.ref C)) (hO:excIn X.K C bm newId=true) (FB:ExcBaseFacts B newId initId bm) (hh:X.A.handled=none) (hg:Gl X x:=by rfl) (hdb:(x==("__debug__" : Str))=false:=by decide) :
  DX X E (.Raise (some (.Call (.Name x np) [.Constant (.str t) j cp] [] cpos)) none pos) (fun _=>some C):=.mk fun H0 Hs0=>fun pins s σ H D I ⟨Hs,δ,C',W,S,e,P⟩=>by
 cases e
 obtain ⟨tl,N,nm,q,bs,hdct,sn,sub,ab,col,dd,k0,k1,k2,k3,k5,mN,hC,hN,hni,T⟩:=jm I.mod.kin hO
 refine @wpAny_Raise_call_subT X.prog X.w X.A X.xe s X.env nm q C N bs tl bm hdct sn sub ab col dd k0 k1 k2 k3 k5 B newId initId FB mN x np cpos pos [.Constant (.str t) j cp] (SP X pins D) (T.hasType FB.hasBase) hh rfl hni (cK I hg hm ⟨rfl,?_⟩ hdb)
 refine Calls.evalArgs_plain ?_
 have pa:PA X [.Constant (.str t) j cp] (tCons (tC (.str t)) tNil):=a5 iq cr
 refine thn (pa cpos pins s σ H (fun vs H1=>vs=[.str t]∧H1=H) I ⟨rfl,rfl⟩) fun us s1 ⟨vs,H1,I1,r,e1,e2⟩=>?_
 subst e1;subst e2
 have hl:=r.length
 refine ⟨rfl,by rw [←hl];show (1:Nat)≤sizeLine;decide,I1.bk _ _ hC,hN.keeps I1.bk,T.keeps I1.bk,fun h' e hx=>?_⟩
 exact hX.made pins σ H1 s1 e C us h' I1 hx (P Hs H1 W)
end
abbrev eV (X:Cx) (e:Addr) (o:Obj) (P:List (Addr×Obj)):Cx:={ X with A:=X.A.mark (some (.ref e)),calm:=false,xe:=fun _ _=>False,H₀:=upd X.H₀ e (.frz o (.own 0)),pn:=P++X.pn }
theorem gu {X:Cx} {pins:List (Addr×Obj)} {σ:St} {H:Hp} {s:Shared} {e:Addr} {o:Obj} (I:Inv X pins σ H s) (e0:X.s₀.heap.get? e=none) (he:H e=some (.frz o (.own 0))) {P:List (Addr×Obj)} (hP:∀ p∈P,s.heap.get? p.1=some p.2∧H p.1=none∧p.1≠X.env.locals∧p.1∉X.fs∧∀ v,p.2.data≠.cell v):Inv (eV X e o P) pins σ H s:=by
 have ne:∀ b u,X.s₀.heap.get? b=some u→b≠e:=fun b u q z=>by rw [z,e0] at q;cases q
 have ok:=I.ok
 refine ⟨⟨ok.mod,ok.kind,ok.glob,ok.blt,ok.above,ok.inj,ok.has,ok.cab,(fun h=>by cases h),ok.frames,ok.stk,ok.exf,fun b u q=>⟨(ok.bs b u q).1,(ak (ne b u (ok.bs b u q).1)).trans (ok.bs b u q).2⟩,ok.bsz,ok.noex,ok.exfs,ok.funs,fun b hb=>?_⟩,I.os,I.bare,⟨fun b u q n=>?_,fun b u q n=>?_,fun b u q n=>?_,I.base.there,fun b xs q=>?_,fun b u v q=>?_,fun b ps q=>?_⟩,I.loc,I.cell,I.free,I.freeC,fun p hp=>?_,I.hok,I.len⟩
 ·
  obtain ⟨_,u,hu,_⟩:=ok.funs.mem hb
  exact (ak (ne b u hu)).trans (ok.frf b hb)
 ·
  exact I.base.keep b u q ((ak (ne b u q)).symm.trans n)
 ·
  exact I.base.slot b u q ((ak (ne b u q)).symm.trans n)
 ·
  exact I.base.free b u q ((ak (ne b u q)).symm.trans n)
 rotate_right
 ·
  rcases List.mem_append.mp (show p∈(P++X.pn)++pins from hp) with z | z
  ·
   rcases List.mem_append.mp z with z | z
   ·
    exact hP p z
   ·
    exact I.pin p (List.mem_append_left _ z)
  ·
   exact I.pin p (List.mem_append_right _ z)
 all_goals by_cases hb:b=e
 ·
  subst hb;have z:some (HO.frz o (.own 0))=some (HO.tup xs):=aj.symm.trans q;cases z
 ·
  exact I.base.tups b xs ((ak hb).symm.trans q)
 ·
  subst hb;have z:some (HO.frz o (.own 0))=some (HO.frz u v):=aj.symm.trans q;cases z;exact he
 ·
  exact I.base.frzs b u v ((ak hb).symm.trans q)
 ·
  subst hb;have z:some (HO.frz o (.own 0))=some (HO.tbl ps):=aj.symm.trans q;cases z
 ·
  exact I.base.tbls b ps ((ak hb).symm.trans q)
theorem iH {X:Cx} {pins p1:List (Addr×Obj)} {σ σ1:St} {H H1:Hp} {s s1:Shared} {e:Addr} {o:Obj} (J:Inv X p1 σ1 H1 s1) (e0:X.s₀.heap.get? e=none) (he:H1 e=some (.frz o (.own 0))) {P:List (Addr×Obj)} (I:Inv (eV X e o P) pins σ H s):Inv X pins σ H s:=by
 have ne:∀ b u,X.s₀.heap.get? b=some u→b≠e:=fun b u q z=>by rw [z,e0] at q;cases q
 refine ⟨J.ok,I.os,I.bare,⟨fun b u q n=>I.base.keep b u q ((ak (ne b u q)).trans n),fun b u q n=>I.base.slot b u q ((ak (ne b u q)).trans n),fun b u q n=>I.base.free b u q ((ak (ne b u q)).trans n),I.base.there,fun b xs q=>?_,fun b u v q=>?_,fun b ps q=>?_⟩,I.loc,I.cell,I.free,I.freeC,fun p hp=>I.pin p (by rcases List.mem_append.mp hp with z | z;exact List.mem_append_left _ (List.mem_append_right _ z);exact List.mem_append_right _ z),I.hok,I.len⟩
 all_goals by_cases hb:b=e
 ·
  subst hb;have z:=J.base.tups b xs q;rw [he] at z;cases z
 ·
  exact I.base.tups b xs ((ak hb).trans q)
 ·
  subst hb;have z:=J.base.frzs b u v q;rw [he] at z;cases z;exact I.base.frzs b _ _ aj
 ·
  exact I.base.frzs b u v ((ak hb).trans q)
 ·
  subst hb;obtain ⟨_,z⟩:=J.base.tbls b ps q;rw [he] at z;cases z
 ·
  exact I.base.tbls b ps ((ak hb).trans q)
theorem c_anyX {X:Cx} {e:Addr} {o:Obj} {P:List (Addr×Obj)} {fs:Array Value} (hf:o.data=.fields fs) (h2:Chp P fs∧∀ p∈P,p.1≠e):bN (eV X e o P) (.builtin "any") (rC1 oAny):=by
 intro pins s σ H xs us Q I rv h
 obtain ⟨x,rfl,Hs,d,r,S,vd,e',K⟩:=h
 match d,e',vd with
 | .lst ds,e',vd=>
  cases eb:bls ds with
  | none=>simp only [oAny,eb] at e';cases e'
  | some bs=>
   simp only [oAny,eb] at e';cases e'
   obtain ⟨a,vs,eq,h1,h3⟩:=vd.lst S
   subst eq
   obtain ⟨u,rfl,ru⟩:=rv.one
   cases (show u=Value.ref a from ru)
   obtain ⟨its,rw',pl,hz⟩:=I.list (SqL.of (K:=X.K) h1)
   have hb:=jP eb h3 rw'
   have hl:=pl.isList
   have hlt:a<s.heap.objs.size:=by obtain ⟨_,e,_⟩:=hl;exact Heap.lt_size e
   obtain ⟨ge,_⟩:=(show bE X.prog X.w H s.heap e (.frz o (.own 0)) from I.hok e _ (I.base.frzs e _ _ aj))
   have hpin:∀ p∈P,s.heap.get? p.1=some p.2:=fun p hp=>(I.pin p (List.mem_append_left _ (List.mem_append_left _ hp))).1
   refine call_any_walk (wpAny_pyIter_list hl ?_)
   refine ⟨s.heap.objs.size,s.heap.objs.size::a::e::P.map (·.1),[s.heap.objs.size],its.toArray.size,_,_,fun i=>(bs[i]?).getD false,rfl,walk2 (A:=(eV X e o P).A.in1) e rfl o fs P hf h2.1 _ a (Nat.ne_of_lt hlt) (Nat.ne_of_lt (Heap.lt_size ge)) (fun p hp=>⟨h2.2 p hp,Nat.ne_of_lt (Heap.lt_size (hpin p hp))⟩) its.toArray,
    ⟨⟨⟨_,Heap.get?_push_size _ rfl,rfl,rfl⟩,hl.push _⟩,Heap.get?_push_of_some _ ge,fun p hp=>Heap.get?_push_of_some _ (hpin p hp)⟩,fun i v s' Q' E' hP hQ=>?_,fun h' tk hk=>?_⟩
   ·
    obtain ⟨b,e,rfl⟩:=hb.get i v (by simpa using hP)
    simp only [e,Option.getD_some] at hQ
    exact wpAny_truthy_bool hQ
   ·
    have e:((List.range its.toArray.size).any fun i=>(bs[i]?).getD false)=bs.any id:=by
     rw [List.size_toArray,hb.length];exact PyProof.Rows.LSm.range_any bs
    rw [e]
    exact ⟨.bl _,H,I.kept (kept_it hk),rfl,K _ Hs H (.refl S) (shB _ _ _ _)⟩
theorem name_goes {X:Cx} {pins:List (Addr×Obj)} {σ:St} {H:Hp} {s:Shared} {n:Str} {pos:Pos} {E:Value→Shared→Prop} {Q:Unit→Shared→Prop} {A:Around} (I:Inv X pins σ H s) (hl:X.env.kindOf n=some .local)
  (h:∀ s',Inv X pins (List.replicate X.N.length none) H s'→Q () s'):wpAny (model X.prog X.w) A (do bindName X.env n .none;unbindBehindTheSuite X.env n pos) Q E s:=by
 obtain ⟨m,hn,_⟩:=id I.loc
 refine wpAny_nameGoes hl hn (by rw [I.ok.kind];rfl) fun h' m' hn' sb=>?_
 have young:∀ b o,X.s₀.heap.get? b=some o→b≠X.env.locals:=fun b o q z=>by
  have h1:=Heap.lt_size q
  have h2:=I.ok.above
  rw [z] at h1
  exact absurd (Nat.lt_of_lt_of_le h1 h2) (Nat.lt_irrefl _)
 have oth:∀ b,b≠X.env.locals→h'.get? b=s.heap.get? b:=fun b hb=>sb.2 b hb
 refine h _ ⟨I.ok,I.os,I.bare,⟨fun b o q n hb hx=>?_,fun b o q n hb hx=>?_,I.base.free,fun b o q hx=>?_,I.base.tups,I.base.frzs,I.base.tbls⟩,⟨m',hn',fun i x v _ e=>?_⟩,fun x c e=>?_,I.free,I.freeC,fun p hp=>?_,fun a o e=>?_,by simp⟩
 ·
  rw [oth b (young b o q)];exact I.base.keep b o q n hb hx
 ·
  obtain ⟨sl,e⟩:=I.base.slot b o q n hb hx
  exact ⟨sl,by rw [oth b (young b o q)];exact e⟩
 ·
  obtain ⟨o',e⟩:=I.base.there b o q hx
  exact ⟨o',by rw [oth b (young b o q)];exact e⟩
 ·
  rw [List.getElem?_replicate] at e
  split at e <;> cases e
 ·
  obtain ⟨v,o,ho,hd⟩:=I.cell x c e
  exact ⟨v,o,by rw [oth c (I.cne x c e)];exact ho,hd⟩
 ·
  obtain ⟨h1,h2,h3,h4⟩:=I.pin p hp
  exact ⟨by rw [oth p.1 h3];exact h1,h2,h3,h4⟩
 ·
  refine (I.hok a o e).stay (fun b u hb q=>?_) (fun _ q=>q) fun _ _ q=>q
  rw [oth b ?_];exact q
  rintro rfl
  rcases hb with rfl | hb
  ·
   rw [I.free] at e;cases e
  ·
   rw [I.free] at hb;cases hb
def stry (i:Nat) (ok:Addr→Option Bool) (G:DSt→Option Addr) (F:FS):FS:=fun δ=>(G δ).bind fun C=>if ok C=some true then (F (δ.set i (some (.exc C)))).bind fun r=>match r with
 | .rt r=>some (.rt r)
 | _=>none
 else none
section
variable {X:Cx} {x q y n:Str} {st:Stmt} {ps:List Str} {f Y:Addr} {fd:FuncData} {k m i:Nat} {mx:List D→Option Addr} {e:Expr} {es:List Expr} {fr:DSt→Option (List R)} {p cpos epos np hpos pos:Pos} {b0:Stmt} {suite:List Stmt} {ok:Addr→Option Bool} {F:FS}
theorem ds_try (d:Df X.K X.mg x q st ps f fd) (G:bO X.prog X.w X.K X.mg X.base (CXr X.prog X.w) k f fd ps (spXa m mx)) (hr:aQ k X.A) (ha:DA X.nox (e::es) fr)
  (hst:X.stack=X.env::X.outer) (hfm:X.env.frame=some X.env.locals)
  (hY:X.mg y=some (.ref Y)) (hok:∀ C,ok C=some true→exmOne X.K (.ref C) (.ref Y)=some true)
  (hN:X.N.Nodup) (hi:X.N[i]?=some n) (hl:X.env.scope.names.lookup n=some .local) (hs:∀ ea o P vs,o.data=.fields vs→(Chp P vs∧∀ p∈P,p.1≠ea)→DSs (eV X ea o P) (b0::suite) F) (hex:X.ex=[]:=by rfl)
  (hgy:Gl X y:=by rfl) (hdy:(y==("__debug__" : Str))=false:=by decide)
  (hg:Gl X x:=by rfl) (hdb:(x==("__debug__" : Str))=false:=by decide) (he:starEach (e::es) X.env=(false,eval e X.env)::starEach es X.env:=by rfl) (hpl:(backTo cpos (starEach es X.env)).any (·.1)=false:=by rfl)
  (hsw:swapsWith (.Call (.Name x p) (e::es) [] cpos) none epos.line X.env=pure false:=by rfl) :
  DS X (.Try [.Expr (.Call (.Name x p) (e::es) [] cpos) epos] [.ExceptHandler (some (.Name y np)) (some n) (b0::suite) hpos] [] [] pos) (stry i ok (aY m mx fr) F):=.mk fun H0 Hs0=>fun pins s σ H D I ⟨Hs,δ,res,W,S,eF,P⟩=>by
 unfold stry at eF
 cases eG:aY m mx fr δ with
 | none=>rw [eG] at eF;cases eF
 | some C=>
  rw [eG] at eF
  simp only [Option.bind_some] at eF
  by_cases hC:ok C=some true
  case neg=>rw [if_neg hC] at eF;cases eF
  rw [if_pos hC] at eF
  cases eS:F (δ.set i (some (.exc C))) with
  | none=>rw [eS] at eF;cases eF
  | some rs=>
   rw [eS] at eF
   match rs,eF,eS with
   | .rt r,eF,eS=>
    cases eF
    unfold aY at eG
    cases ea:fr δ with
    | none=>rw [ea] at eG;cases eG
    | some rs=>
     rw [ea] at eG
     replace eG:(if rs.length=m∧bD rs=true then mx (rs.map R.view) else none)=some C:=eG
     by_cases hc:rs.length=m∧bD rs=true
     case neg=>rw [if_neg hc] at eG;cases eG
     rw [if_pos hc] at eG
     refine wpAny_Try_except (wpAny_execs_cons (wpAny_Expr_any ?_ I.quiet hsw))
     refine wpAny_Call_Name_kw (cK I hg d.mgx ?_ hdb)
     refine callWith_K (h₀:=X.base) I.ok.mod.kin d.fn.kp (wpAny_mono (ha.go cpos pins s σ H _ (I.wish _) ⟨Hs,δ,rs,W.sub,S.ent,ea,fun vs Hs1 H1 W1 R1=>(⟨Hs1,W1,R1⟩ : ∃ Hs1,Wd H Hs Hs1 H1∧b9 H Hs1 H1 rs vs)⟩) (fun us s1 ⟨vs,H1,I1',rv,Hs1,W1,R1⟩=>?_) fun _ _ z=>z.elim) he hpl
     have I1:=I1'.unwish
     refine ⟨I1.kIn,?_⟩
     obtain ⟨Hs2,q1,q2,q3,q4⟩:=R1.freeze W1.sub
     have W2:Wd H Hs Hs2 H1:=⟨W1.keep,q2,W1.base.trans q3,fun a o e=>by
      rcases q4 (cX hc.2) a o e with z | z
      ·
       exact W1.new a o z
      ·
       exact .inr z⟩
     have hsp:spXa m mx (vs++[]) H1 (fun _ _=>False) (fun v _ H'=>v=.ref C∧∃ Hs',Wd H Hs Hs' H'):=by
      rw [List.append_nil]
      exact ⟨Hs2,_,C,by rw [List.length_map];exact hc.1,q2,q1,eG,fun Hs3 H3 W3 _=>⟨rfl,Hs3,W2.trans W3⟩⟩
     have r2:aA (vs++[]) (us++[]):=by rw [List.append_nil,List.append_nil];exact rv
     have hl2:(us++([]:List Value)).length=ps.length:=by rw [←r2.length];exact G.len _ _ _ _ hsp
     refine wpAny_call (codeAny_mono (G.run X.A X.stack s1 H1 ⟨us,[]⟩ (us++[]) (vs++[]) _ _ hr I1.env0 (d.bd s1 us I1.kIn hl2) r2 hsp) fun rr s' hq=>?_)
     cases rr with
     | ok fl=>
      cases fl with
      | ret u=>obtain ⟨_,_,_,_,_,_,_,z⟩:=hq;exact z.elim
      | next=>exact False.elim hq
      | brk=>exact False.elim hq
      | cont=>exact False.elim hq
     | error ev=>
      obtain ⟨ex,C',H',hbh,rfl,⟨os,bare,un,hokk,B,fl,old,tr,nbh⟩,eC,Hs',W'⟩:=hq
      cases eC
      have hfr:X.A.frames=some (X.env::X.outer):=by rw [I.ok.frames,hst]
      have fl':cV B hbh (X.env::X.outer) ex (.ref C) .none s'.heap:=by rw [←hst];exact fl
      have nfr:∀ b∈frs X.stack,∀ o,s'.heap.get? b=some o→∀ vs,o.data≠.fields vs:=fun b hb o qo=>by
       obtain ⟨_,o',ho',hd⟩:=fl.2.2.1.mem hb
       rw [qo] at ho';cases ho'
       exact hd
      have new1:s1.heap.get? ex=none:=by
       cases z:s1.heap.get? ex with
       | none=>rfl
       | some o=>
        obtain ⟨ob,vs',h1,_,_,h3⟩:=fl.ex
        have nf:ex∉frs X.stack:=fun hm=>nfr ex hm ob h1 vs' h3
        obtain ⟨_,z'⟩:=old ex o z nf (by simp)
        rw [fl.2.1] at z';cases z'
      have nH:H' ex=none:=by
       cases z:H' ex with
       | none=>rfl
       | some u=>
        obtain ⟨_,z'⟩:=tr ex u z
        rw [fl.2.1] at z';cases z'
      have land:∀ h6 o6,cV B hbh X.stack ex (.ref C) .none h6→s'.heap.UpToSlots h6→h6.get? ex=some o6→Inv X pins σ (upd H' ex (.frz o6 (.own 0))) { s' with heap:=h6 }:=fun h6 o6 f6 up g6=>by
       have un6:=un.slots fl.1 f6.1 up (fun b o q n=>old b o q n (by simp)) nfr
       have hok6:=hokk.slots fl.1 f6.1 tr
       refine I1.call' os (ch:=[]) ⟨un6.keep,un6.slot,fun b o qo nb hx=>?_,un6.there,fun b xs qo=>?_,fun b o u qo=>?_,fun b ps qo=>?_⟩ (fun b u qo=>?_) bare (by simp)
       ·
        have:b≠ex:=fun z=>by rw [z,new1] at qo;cases qo
        rw [ak this];exact un6.free b o qo nb hx
       ·
        have:=un6.tups b xs qo
        rw [ak (az this nH)];exact this
       ·
        have:=un6.frzs b o u qo
        rw [ak (az this nH)];exact this
       ·
        obtain ⟨more,this⟩:=un6.tbls b ps qo
        exact ⟨more,by rw [ak (az this nH)];exact this⟩
       ·
        by_cases hb:b=ex
        ·
         subst hb
         rw [aj] at qo;cases qo
         exact ⟨g6,_,g6⟩
        ·
         rw [ak hb] at qo
         exact (hok6 b u qo).stay (fun c v _ z=>z) (fun c z=>by rw [ak (az z nH)];exact z) fun c xs z=>by rw [ak (az z nH)];exact z
      have e0:X.s₀.heap.get? ex=none:=by
       cases z:X.s₀.heap.get? ex with
       | none=>rfl
       | some o=>
        obtain ⟨_,z'⟩:=I1.base.there ex o z (by rw [hex];simp)
        rw [new1] at z';cases z'
      refine note2 hfr hfm fl' fun h4 held4 up4=>?_
      refine jk held4 fun h5 fl5 up5=>?_
      obtain ⟨o5,_,g1,g2,_⟩:=fl5.ex
      have I5:=gu (P:=[]) (land h5 o5 (by rw [hst];exact fl5) (up4.trans up5) g1) e0 aj (by simp)
      refine wpAny_handleBy_cons (codeAny_handlers_test (cK I5 hgy hY ?_ hdy)) (by intro z;cases z)
      have LT:Looks (model X.prog X.w) h5 (typeOf (.ref ex)) (.ref C):=g2▸(PySem.W.Looks.ld g1).andThen .now
      refine (exm_one (K:=X.K) (h:=h5) I5.kIn LT (hok C hC)).at ?_
      refine codeAny_handlers_suite_as ?_
      refine jk fl5 fun h6 fl6 up6=>?_
      obtain ⟨o6,v6,k1,k2,k3,k4⟩:=fl6.ex
      have J6:=land h6 o6 (by rw [hst];exact fl6) ((up4.trans up5).trans up6) k1
      obtain ⟨PP,hch,hPn,hPk⟩ : ∃ P:List (Addr×Obj),Chp P v6∧(∀ p∈P,p.1≠ex)∧∀ p∈P,h6.get? p.1=some p.2∧upd H' ex (.frz o6 (.own 0)) p.1=none∧p.1≠X.env.locals∧p.1∉X.fs∧∀ v,p.2.data≠.cell v:=by
       rcases k3 with k3 | ⟨h2,o2,v2,e1,e2,e3,e4,e5⟩
       ·
        exact ⟨[],.inl k3,by simp,by simp⟩
       ·
        have ne:h2≠ex:=fun z=>by rw [z,fl6.2.1] at e3;cases e3
        have nfm:h2∉frs X.stack:=fun hm=>by
         have:=(fl.2.2.1.mem hm).1
         rw [e3] at this;cases this
        refine ⟨[(h2,o2)],.inr ⟨h2,o2,v2,e2,by simp,e4,e5⟩,by simpa using ne,?_⟩
        intro p hp
        cases (by simpa using hp:p=(h2,o2))
        refine ⟨fl6.1 h2 o2 e3,by rw [ak ne];exact nbh h2 e1,fun z=>nfm ?_,fun z=>nfm ?_,fun v z=>by rw [e4] at z;cases z⟩
        ·
         rw [hst]
         exact List.mem_filterMap.mpr ⟨X.env,List.mem_cons_self,by rw [hfm];exact congrArg some z.symm⟩
        ·
         rw [hst]
         exact List.mem_filterMap.mpr (by obtain ⟨a,b,c⟩:=List.mem_filterMap.mp z;exact ⟨a,.tail _ b,c⟩)
      refine eM (X:=eV X ex o6 PP) (v:=.ref ex) (gu J6 e0 aj hPk) hN hi (.inl hl) rfl (fun s7 I7=>?_) (.inr hl)
      have W6:Wd H Hs (upd Hs' ex (.frz o6 (.own 0))) (upd H' ex (.frz o6 (.own 0))):=W'.trans (.lay W'.sub nH)
      have S6:StR H0 (upd Hs' ex (.frz o6 (.own 0))) (upd H' ex (.frz o6 (.own 0))) (δ.set i (some (.exc C))) (σ.set i (some (.ref ex))):=S.put W.keep W6 ⟨ex,rfl,o6,aj,k2⟩ (fun b z=>z.elim)
      refine wpAny_mono ((hs ex o6 PP v6 k4 ⟨hch,hPn⟩).go H0 Hs0 pins s7 _ _ { nx:=fun _ _=>False,rt:=D.rt } I7 ⟨_,_,_,W.trans W6,S6,eS,P⟩) (fun fl8 s8 z=>?_) fun _ _ z=>z.elim
      cases fl8 with
      | next=>obtain ⟨_,_,_,z⟩:=z;exact z.elim
      | brk=>obtain ⟨_,_,_,z⟩:=z;exact z.elim
      | cont=>obtain ⟨_,_,_,z⟩:=z;exact z.elim
      | ret u=>
       obtain ⟨v,σ8,H8,I8,rv8,q8⟩:=z
       exact name_goes (iH J6 e0 aj I8) hl fun s9 I9=>⟨v,_,H8,I9,rv8,q8⟩
end
end Ew
end
section
namespace Ew
open PySem PySem.Spec L2 PyProof.Rows PySem.W
def ExcAt (C a:Addr) (h:Heap):Prop:=∃ o,h.get? a=some o∧o.cls=.ref C
theorem ExcAt.ty {M:Model} {h:Heap} {C a:Addr} (x:ExcAt C a h):Looks M h (typeOf (.ref a)) (.ref C):=by
 obtain ⟨o,h1,h2⟩:=x
 exact h2▸(Looks.ld h1).andThen .now
structure Xo (K:Frag) (C:Addr):Prop where
 cl:(clsIn K C).isSome=true
 ga:findIn K (.ref C) "__getattribute__" = some (some (.builtin "BaseException.__getattribute__"))
 hb:mroIn K C (.type "BaseException")=some true
 gh:findIn K (.ref C) "__getattr__" = some none
 ha:findIn K (.ref C) "__class__" = some (some (.builtin "object.__class__"))
 hn:specialIn K (.builtin "object.__class__") "__get__" = some (some (.builtin "getset_descriptor.__get__"))
 ht:takesIn K (.builtin "object.__class__")=some true
 hm:mroIn K C (.type "object")=some true
open Builtin Builtin.ObjectAttr in
theorem xfind {K:Frag} {M:Model} {h:Heap} (X:K.In h) {v:Value} {C:Addr} {n:Str} {a g:Value} (e1:findIn K (.ref C) n=some (some a)) (e2:specialIn K a "__get__" = some (some g)) (e3:takesIn K a=some true) :
  Looks M h (find v (.ref C) n) (.bind g a):=by
 have k1:=looks_findIn (M:=M) X e1
 have k2:Looks M h (getOf (some a)) (some g):=looks_specialIn X e2
 have k3:Looks M h (dataDescriptor? (some a) (some g)) (some (g,a)):=(looks_takesIn (M:=M) X e3).andThen .now
 exact k1.andThen (k2.andThen (k3.andThen (Looks.tag .now)))
section
variable {prog:Program} {w:World} {A:Around} {E:Value→Shared→Prop} {s:Shared} {K:Frag} {x C:Addr}
open Builtin Builtin.ObjectAttr Builtin.Getset_descriptor in
theorem li {R:Result→Shared→Prop} {tp:Value} (X:K.In s.heap) (I:ExcAt C x s.heap) (hm:mroIn K C (.type "object")=some true) (h:R (.ok (.ret (.ref C))) s) :
  codeAny (model prog w) A (.call (.builtin "getset_descriptor.__get__") ⟨[.builtin "object.__class__",.ref x,tp],[]⟩) R s:=by
 obtain ⟨h0,g0,d0,t0,o0⟩:=s
 have k0:=I.ty (M:=model prog w);have k1:=looks_mroIn (M:=model prog w) X hm
 refine codeAny_call_builtin KF.slot_gs.plain KF.entry_gs (KF.slot_gs.check _ _ _ _ _ _ _ _ KF.type_class (KF.args_gs _ _ _) ?_)
 unfold Builtin.«getset_descriptor.__get__» descrGet;rw [dga_obj]
 refine wpAny_bind (wpAny_pure ?_)
 unfold descrGetter descrCheckInstance descrNameAndClass isInstance;simp only [KF.owner_class]
 repeat lk
 refine ⟨Code.quiet_builtin _ (by decide +kernel),codeAny_builtin KF.entry_class ?_⟩
 unfold Builtin.«object.__class__» shownTypeOf;repeat lk
 exact h
theorem xca (o:Xo K C) {Q:Option Value→Shared→Prop} (X:K.In s.heap) (I:ExcAt C x s.heap) (h:Q (some (.ref C)) { s with toks:=s.toks+1 }):wpAny (model prog w) A (getAttr? (.ref x) "__class__") Q E s:=by
 obtain ⟨h0,g0,d0,t0,o0⟩:=s
 have k0:=I.ty (M:=model prog w);have k1:=looks_findIn (M:=model prog w) X o.ga;have k2:=looks_findIn (M:=model prog w) X o.gh;have k3:=xfind (M:=model prog w) (v:=.ref x) X o.ha o.hn o.ht;have k4:=looks_mroIn (M:=model prog w) X o.hb
 have hk:builtinKind "BaseException.__getattribute__" = some .slot:=by decide +kernel
 have hp:splitId "BaseException.__getattribute__" = some ("BaseException", "__getattribute__"):=by decide +kernel
 unfold getAttr? getAttrBy?;unfold getAttrBy
 refine wpAny_bind (wpAny_mkText (wpAny_bind (wpAny_attempt (wpAny_holding (wpAny_bind (k0.at (wpAny_bind (k1.at ?_))))))))
 have hx:(onTheHeap (Value.ref C)&&Value.builtin "BaseException.__getattribute__"==Value.builtin "object.__getattribute__")=false:=by
  rw [show (Value.builtin "BaseException.__getattribute__"==Value.builtin "object.__getattribute__")=false by decide +kernel];rfl
 dsimp only
 rw [hx,if_neg (by decide)]
 unfold getAttrByItsOwn hookBefore callGetattribute boundAndCalled
 refine wpAny_bind (k2.at (wpAny_bind (wpAny_attempt (wpAny_holding ?_))))
 rw [if_neg (by decide),F.excAttr_ValueError.ga.bind]
 refine wpAny_bind (wpAny_pure (wpAny_call (codeAny_call_builtin F.excAttr_ValueError.ga.plain F.entry_bexc_ga ?_)))
 have ha:=F.args_bexc_ga (.ref x) (.str (Str.ofString "__class__") t0)
 simp only [checkBuiltinCall,hk,hp]
 refine wpAny_bind ?_
 unfold isInstance
 refine wpAny_bind (k0.at (k4.at ?_))
 rw [if_neg (by decide)]
 refine wpAny_of_eq (a:=()) ha ?_
 unfold Builtin.«object.__getattribute__»
 refine wpAny_bind (wpAny_pure (wpAny_bind (wpAny_pure (wpAny_bind (k0.at (wpAny_bind (k3.at ?_)))))))
 show wpAny _ _ (holding [.builtin "object.__class__"] (call (.builtin "getset_descriptor.__get__") [.builtin "object.__class__",.ref x,.ref C]) >>= fun v=>ret v) _ _ _
 refine wpAny_bind (wpAny_holding (wpAny_call (li (s:=⟨h0,g0,d0,t0+1,o0⟩) X I o.hm (wpAny_pure ?_))))
 show wpAny _ _ (handedOut (.ref C)) _ _ _
 rw [handedOut_of rfl]
 exact wpAny_pure (wpAny_pure h)
end
theorem Xo.kit {K:Frag} {C x:Addr} (o:Xo K C):KitX K (.ref x) (.ref C) (ExcAt C x) where
 ty:=fun _ _ _ I=>I.ty
 it:=fun _ _ X _=>by
  obtain ⟨cd,e⟩:=Option.isSome_iff_exists.mp o.cl
  unfold clsIn at e
  split at e
  ·
   next ho=>
   intro A' Q' E' s' k q
   exact wpAny_bind (wpAny_loadPart (k _ _ (X _ _ ho)) (wpAny_pure q))
  ·
   cases e
 ne:=fun h tp dd its n sl X htp=>by
  obtain ⟨cd,e⟩:=Option.isSome_iff_exists.mp o.cl
  refine Bool.eq_false_iff.mpr fun q=>?_
  cases Value.ref.inj (beq_iff_eq.mp q)
  unfold clsIn at e
  split at e
  ·
   next ho=>
   have z:=(X _ _ ho).symm.trans htp
   cases z
  ·
   cases e
 ca:=fun X I k=>xca o X I k
theorem xo_mk {K:Frag} {C:Addr} {oc:Value} {od:Option Addr} {cd:ClassData} {sl:Array (Option Value)} (h1:K.lookup C=some ⟨oc,od,.cls cd,sl⟩) (ga:findIn K (.ref C) "__getattribute__" = some (some (.builtin "BaseException.__getattribute__"))) (hb:mroIn K C (.type "BaseException")=some true)
  (gh:findIn K (.ref C) "__getattr__" = some none) (ha:findIn K (.ref C) "__class__" = some (some (.builtin "object.__class__"))) (hn:specialIn K (.builtin "object.__class__") "__get__" = some (some (.builtin "getset_descriptor.__get__"))) (ht:takesIn K (.builtin "object.__class__")=some true) (hm:mroIn K C (.type "object")=some true):Xo K C:=
 ⟨by unfold clsIn;rw [show List.lookup C K=_ from h1];rfl,ga,hb,gh,ha,hn,ht,hm⟩
theorem kit_subT {K:Frag} {C:Addr} {b:Bool} (h:subIn K (.ref C) (.type "ValueError")=some b):kitOne K (.ref C) (.type "ValueError")=some b:=by
 unfold kitOne
 rw [if_neg (by simp)]
 show (if kitMeta "ValueError" = true then _ else none)=_
 rw [if_pos (by decide +kernel)]
 exact h
theorem exm_mk {K:Frag} {C Y:Addr} {oc:Value} {od:Option Addr} {cd:ClassData} {sl:Array (Option Value)} (h1:K.lookup Y=some ⟨oc,od,.cls cd,sl⟩) (h2:typeIn K (.ref Y)=some (.type "type")) (h3:subIn K (.ref C) (.ref Y)=some true) (h4:subIn K (.ref Y) (.type "BaseException")=some true):exmOne K (.ref C) (.ref Y)=some true:=by
 unfold exmOne
 rw [h4,if_pos (by decide)]
 show (if ((clsIn K Y).isSome&&typeIn K (.ref Y)==some (.type "type"))=true then _ else none)=_
 have hc:clsIn K Y=some cd:=by
  unfold clsIn
  rw [show List.lookup Y K=_ from h1]
 rw [hc,h2]
 simpa using h3
def isA (l:List (Addr×Bool)) (C:Addr):Option Bool:=l.lookup C
def Xa (K:Frag) (ans:Addr→Option Bool) (cu:Value):Prop:=∀ C b,ans C=some b→Xo K C∧kitOne K (.ref C) cu=some b
theorem fT {K:Frag} {cu:Value}:Xa K (isA []) cu:=fun _ _ h=>by cases h
theorem dY {K:Frag} {cu:Value} {C:Addr} {b:Bool} {l:List (Addr×Bool)} (o:Xo K C) (k:kitOne K (.ref C) cu=some b) (t:Xa K (isA l) cu):Xa K (isA ((C,b)::l)) cu:=fun D d h=>by
 unfold isA at h
 rw [List.lookup_cons] at h
 cases e:D==C with
 | true=>
  rw [e] at h;cases h
  cases beq_iff_eq.mp e
  exact ⟨o,k⟩
 | false=>rw [e] at h;exact t D d h
def Xm (K:Frag) (ans:Addr→Option Bool) (Y:Addr):Prop:=∀ C,ans C=some true→exmOne K (.ref C) (.ref Y)=some true
theorem xm_nil {K:Frag} {Y:Addr}:Xm K (isA []) Y:=fun _ h=>by cases h
theorem xm_cons {K:Frag} {Y C:Addr} {b:Bool} {l:List (Addr×Bool)} (k:exmOne K (.ref C) (.ref Y)=some true) (t:Xm K (isA l) Y):Xm K (isA ((C,b)::l)) Y:=fun D h=>by
 unfold isA at h
 rw [List.lookup_cons] at h
 cases e:D==C with
 | true=>cases beq_iff_eq.mp e;exact k
 | false=>rw [e] at h;exact t D h
structure Xd (K:Frag) (mg:Str→Option Value) (C:Addr) (n:Str):Prop where
 g:mg n=some (.ref C)
 x:excIn K C [.type "ValueError",.type "Exception",.type "BaseException",.type "object"] "ValueError.__new__" = true
theorem xd_mk {K:Frag} {mg:Str→Option Value} {h:Heap} (KX:K.In h) (G:h.Ns mainGlobals mg) {C:Addr} {n:Str} (e1:nsIn K mainGlobals n=some (some (.ref C))) (e2:excIn K C [.type "ValueError",.type "Exception",.type "BaseException",.type "object"] "ValueError.__new__" = true):Xd K mg C n:=
 ⟨mg_of KX G e1,e2⟩
def h7 (i:Nat) (ans:Addr→Option Bool):FE:=fun δ=>match δ[i]? with
 | some (some (.exc C))=>(ans C).map fun b=>.sh (.bl b)
 | _=>none
section
variable {X:Cx} {x y:Str} {i:Nat} {ans:Addr→Option Bool} {cv:V} {cu:Value} {ce:Expr} {p p1 pos:Pos}
theorem c_isx:bN X (.builtin "isinstance") (fun xs H Q=>∃ a C cu cv b o,xs=[.ref a,cv]∧((∃ n,cv=.ty n)∨∃ a,cv=.ref a)∧RelV cv cu∧H a=some (.frz o (.own 0))∧o.cls=.ref C∧Xo X.K C∧kitOne X.K (.ref C) cu=some b∧Q (.bl b) H):=by
 intro pins s σ H xs us Q I rv h
 obtain ⟨a,C,cu,cv,b,o,rfl,hc,rc,ha,hcl,xo,hk,q⟩:=h
 obtain ⟨u,u2,rfl,ru,ru2⟩:=rv.two
 cases RelV.fn hc rc ru2
 cases (show u=Value.ref a from ru)
 obtain ⟨g1,_⟩:=(show bE X.prog X.w H s.heap a (.frz o (.own 0)) from I.hok a _ ha)
 exact kia_one (xo.kit (x:=a)) I.kIn ⟨o,g1,hcl⟩ hk (fun z=>nomatch z) fun tk=>⟨.bl b,H,I.tok tk,rfl,q⟩
theorem de_isx (hv:PE X (.Name x p) (tVar i)) (hc:PE X ce (tC cv)) (hcv:(∃ n,cv=.ty n)∨∃ a,cv=.ref a) (rc:RelV cv cu) (hk:Xa X.K ans cu) (hg:Gl X "isinstance") (hm:X.mg "isinstance" = none)
  (hs:starEach [.Name x p,ce] X.env=(false,eval (.Name x p) X.env)::starEach [ce] X.env:=by rfl) (hs2:starEach [ce] X.env=(false,eval ce X.env)::starEach [] X.env:=by rfl) (hpl:(backTo pos (starEach [ce] X.env)).any (·.1)=false:=by rfl) :
  DE X (.Call (.Name "isinstance" p1) [.Name x p,ce] [] pos) (h7 i ans):=.mk <|
 (eN c_isx hg hm boot_isinstance (a5 hv (a5 hc cr hs2) hs) (he:=hs) (hpl:=hpl)).weak fun σ H Q ⟨Hs,δ,r,S,En,e,K⟩=>by
  unfold h7 at e
  split at e
  ·
   next C q=>
   cases ea:ans C with
   | none=>rw [ea] at e;cases e
   | some b=>
    rw [ea] at e;cases e
    obtain ⟨v,hv,a,rfl,o,h1,hcl⟩:=En i _ q
    obtain ⟨xo,hkk⟩:=hk C b ea
    exact ⟨_,hv,a,C,cu,cv,b,o,rfl,hcv,rc,S _ _ h1,hcl,xo,hkk,K _ Hs H (.refl S) (shB _ _ _ _)⟩
  ·
   cases e
theorem ixc {n:Str} {C:Addr} (d:Xd X.K X.mg C n) (hk:Xa X.K ans (.ref C)) (hm:X.mg "isinstance" = none) (hg:Gl X "isinstance":=by rfl) (hgn:Gl X n:=by rfl) (hdb:(n==("__debug__" : Str))=false:=by decide)
 (hN:X.N[i]?=some x:=by rfl) (hv:Vis X.env.scope x:=by first | exact Or.inl rfl | exact Or.inr (Or.inl rfl) | exact Or.inr (Or.inr rfl)) (hd:(x==("__debug__" : Str))=false:=by decide) (hcd:(x==("__classdict__" : Str))=false:=by decide)
 (hs:starEach [.Name x p,.Name n p1] X.env=(false,eval (.Name x p) X.env)::starEach [.Name n p1] X.env:=by exact aE rfl) (hs2:starEach [.Name n p1] X.env=(false,eval (.Name n p1) X.env)::starEach [] X.env:=by exact aE rfl) (hpl:(backTo pos (starEach [.Name n p1] X.env)).any (·.1)=false:=by rfl) {p2:Pos} :
 DE X (.Call (.Name "isinstance" p2) [.Name x p,.Name n p1] [] pos) (h7 i ans):=de_isx (pv i hN hv hd hcd) (h8 (v:=.ref C) hgn d.g rfl hdb) (.inr ⟨_,rfl⟩) rfl hk hg hm hs hs2 hpl
theorem ixt (hn:X.mg "ValueError" = none) (hk:Xa X.K ans (.type "ValueError")) (hm:X.mg "isinstance" = none) (hg:Gl X "isinstance":=by rfl) (hgn:Gl X "ValueError":=by rfl)
 (hN:X.N[i]?=some x:=by rfl) (hv:Vis X.env.scope x:=by first | exact Or.inl rfl | exact Or.inr (Or.inl rfl) | exact Or.inr (Or.inr rfl)) (hd:(x==("__debug__" : Str))=false:=by decide) (hcd:(x==("__classdict__" : Str))=false:=by decide)
 (hs:starEach [.Name x p,.Name "ValueError" p1] X.env=(false,eval (.Name x p) X.env)::starEach [.Name "ValueError" p1] X.env:=by exact aE rfl) (hs2:starEach [.Name "ValueError" p1] X.env=(false,eval (.Name "ValueError" p1) X.env)::starEach [] X.env:=by exact aE rfl) (hpl:(backTo pos (starEach [.Name "ValueError" p1] X.env)).any (·.1)=false:=by rfl) {p2:Pos} :
 DE X (.Call (.Name "isinstance" p2) [.Name x p,.Name "ValueError" p1] [] pos) (h7 i ans):=de_isx (pv i hN hv hd hcd) (fk (v:=.ty "ValueError") hgn hn (by kernel_rfl) rfl) (.inl ⟨_,rfl⟩) rfl hk hg hm hs hs2 hpl
end
abbrev OkX {K:Frag} {x q:Str} {st:Stmt} {ps:List Str} (P:Program) (w:World) (mg:Str→Option Value) (base:Heap) (k:Nat) (F:Fb K x q st ps) (sp:Sp):Prop:=bO P w K mg base (CXr P w) k F.f F.fd ps sp
section
variable {P:Program} {w:World} {K:Frag} {mg:Str→Option Value} {base:Heap} {x q:Str} {st:Stmt} {ps:List Str} {k:Nat} {G:DSt→Option Addr}
abbrev BodX (P:Program) (w:World) (mg:Str→Option Value) (base:Heap) (k:Nat) (F0:Fb K x q st ps) (L:List Str) (G:DSt→Option Addr):Prop:=
 ∀ (cdv:Value) (A:Around) (outer:List Env) (s:Shared) (H:Hp) (E:XK),aQ k (A.deeper (envOfC q (defScope st) s.heap.objs.size F0.f cdv))→(ps++L).Nodup→DXs (dP (CXr P w) P w K mg base (ps++L) q (defScope st) F0.f cdv A outer s H E) E (defBody st) G
theorem fX {F0:Fb K x q st ps} (L:List Str) (h:BodX P w mg base k F0 L G) (S:cw (ps++L) ps (defScope st)=true:=by kernel_rfl):OkX P w mg base (k+1) F0 (spX ps.length (gO (ps++L).length G)):=
 fn_X F0.fn (cw.fs S) fun cdv A o s H E hr=>h cdv A o s H E hr (cw.fs S).nd
abbrev BodA (P:Program) (w:World) (mg:Str→Option Value) (base:Heap) (k:Nat) (F0:Fb K x q st ps) (L:List Str) (G:DSt→Option Addr):Prop:=
 ∀ (cdv:Value) (A:Around) (outer:List Env) (s:Shared) (H:Hp) (E:XK),aQ k (A.deeper (envOfC q (defScope st) s.heap.objs.size F0.f cdv))→(ps++L).Nodup→DXs (dP (CXr P w) P w K mg base (ps++L) q (defScope st) F0.f cdv A outer s H E) (al E) (defBody st) G
theorem fA {F0:Fb K x q st ps} (L:List Str) (h:BodA P w mg base k F0 L G) (S:cw (ps++L) ps (defScope st)=true:=by kernel_rfl):OkX P w mg base (k+1) F0 (spXa ps.length (gO (ps++L).length G)):=
 fn_Xa F0.fn (cw.fs S) fun cdv A o s H E hr=>h cdv A o s H E hr (cw.fs S).nd
end
section
variable {X:Cx} {E:XK} {x n y:Str} {st:Stmt} {ps:List Str} {k j m i:Nat} {Y:Addr} {mx:List D→Option Addr} {e:Expr} {es:List Expr} {fr:DSt→Option (List R)} {p cpos epos np hpos pos:Pos} {b0:Stmt} {suite:List Stmt} {ans:Addr→Option Bool} {F:FS}
theorem sty {Fx:Fd X.K X.mg x st ps} (G:OkX X.prog X.w X.mg X.base k Fx.toFb (spXa m mx)) (hr:aQ j X.A) (ha:DA X.nox (e::es) fr) (d:Xd X.K X.mg Y y) (hok:Xm X.K ans Y) (hN:X.N.Nodup) (hs:∀ ea o P vs,o.data=.fields vs→(Chp P vs∧∀ p∈P,p.1≠ea)→DSs (eV X ea o P) (b0::suite) F) (hk:k≤j:=by decide) (hex:X.ex=[]:=by rfl)
  (hi:X.N[i]?=some n:=by rfl) (hl:X.env.scope.names.lookup n=some .local:=by rfl) (hst:X.stack=X.env::X.outer:=by rfl) (hfm:X.env.frame=some X.env.locals:=by rfl)
  (hgy:Gl X y:=by rfl) (hdy:(y==("__debug__" : Str))=false:=by decide) (hg:Gl X x:=by rfl) (hdb:(x==("__debug__" : Str))=false:=by decide)
  (he:starEach (e::es) X.env=(false,eval e X.env)::starEach es X.env:=by exact aE rfl) (hpl:(backTo cpos (starEach es X.env)).any (·.1)=false:=by rfl)
  (hsw:swapsWith (.Call (.Name x p) (e::es) [] cpos) none epos.line X.env=pure false:=by rfl) :
  DS X (.Try [.Expr (.Call (.Name x p) (e::es) [] cpos) epos] [.ExceptHandler (some (.Name y np)) (some n) (b0::suite) hpos] [] [] pos) (stry i ans (aY m mx fr) F):=
 ds_try ⟨Fx.fn,Fx.mgx,Fx.bd⟩ G (hr.mono hk) ha hst hfm d.g hok hN hi hl hs hex hgy hdy hg hdb he hpl hsw
end
end Ew
end
section
namespace Ew
open PySem PySem.Spec L2
def aD (x y:Str):List Str:=if (decide (x.length<y.length)||decide (Builtin.Str.strKind x<Builtin.Str.strKind y))=true∨(Builtin.Str.occurrences x y 0 x.length (x.length+1)).isEmpty=true then [x] else Builtin.Str.partsBetween x (Builtin.Str.occurrences x y 0 x.length (x.length+1)) y.length
section
variable {X:Cx} {e o:Expr} {fo fe f:FE} {apos cpos:Pos} {y:Str} {j:Nat} {p:Pos}
theorem jn:∀ (tk:Nat) (xs:List Str),aA (xs.map V.str) (strsFrom tk xs)
 | _,[]=>.nil
 | tk,x::r=>.cons ⟨tk,rfl⟩ (jn (tk+1) r)
theorem jo {H:Hp}:∀ (xs:List Str),av H (xs.map D.str) (xs.map V.str)
 | []=>by unfold av;rfl
 | x::r=>by
  rw [List.map_cons,List.map_cons]
  unfold av
  exact ⟨_,_,rfl,by unfold Rep;rfl,jo r⟩
theorem kx (x y:Str) (t u:Tok) (hy:(y.length==0)=false) (hx:x.length≤sizeLine) (hn:(aD x y).length≤sizeLine) :
  Meets (Builtin.«str.split» ⟨[.str x t,.str y u],[]⟩) (fun _ R s=>∀ vs tk,aA ((aD x y).map V.str) vs→R (.ok (.ret (.ref s.heap.objs.size))) { s with toks:=tk,heap:=s.heap.push { cls:=.type "list",data:=.seq vs.toArray } }):=by
 by_cases h1:(decide (x.length<y.length)||decide (Builtin.Str.strKind x<Builtin.Str.strKind y))=true
 ·
  obtain ⟨raising,htree⟩:=split_sep_tree x y t u
  refine .of_wp fun prog w A R s h=>?_
  rw [htree,if_pos h1]
  refine wpAny_bind (wpAny_rule (wpAny_bind (wpAny_newList (wpAny_pure ⟨_,rfl,h [.str x t] s.toks ?_⟩) (by show 1≤sizeLine;decide))))
  unfold aD
  rw [if_pos (.inl h1)]
  exact .cons ⟨t,rfl⟩ .nil
 ·
  have h1':(decide (x.length<y.length)||decide (Builtin.Str.strKind x<Builtin.Str.strKind y))=false:=by simpa using h1
  cases h2:(Builtin.Str.occurrences x y 0 x.length (x.length+1)).isEmpty with
  | true=>
   obtain ⟨raising,htree⟩:=split_sep_tree x y t u
   refine .of_wp fun prog w A R s h=>?_
   rw [htree,h1',hy,h2]
   show wpAny _ _ (do rule "str.split.same-object";ret (←newList [.str x t])) _ _ s
   refine wpAny_bind (wpAny_rule (wpAny_bind (wpAny_newList (wpAny_pure ⟨_,rfl,h [.str x t] s.toks ?_⟩) (by show 1≤sizeLine;decide))))
   unfold aD
   rw [if_pos (.inr h2)]
   exact .cons ⟨t,rfl⟩ .nil
  | false=>
   have e:aD x y=Builtin.Str.partsBetween x (Builtin.Str.occurrences x y 0 x.length (x.length+1)) y.length:=by
    unfold aD
    rw [if_neg (by rw [h1',h2];simp)]
   rw [e] at hn ⊢
   intro prog w A R s h
   exact meets_str_split_sep x y t u h1' hy h2 hx hn prog w A R s (h _ _ (jn _ _))
def cf (y:Str) (f:FE):FE:=fun δ=>(f δ).bind fun r=>match r.view with
 | .str x=>if x.length≤1000∧(aD x y).length≤1000 then some (.fr ((aD x y).map .str)) else none
 | _=>none
def rSplit (y:Str):V→List V→Hp→VK→Prop:=fun v vs H Q=>∃ x,v=.str x∧vs=[.str y]∧x.length≤1000∧(aD x y).length≤1000∧∀ l,H l=none→Q (.ref l) (upd H l (.lst ((aD x y).map .str)))
theorem mt_split (hy:(y.length==0)=false):MtR X "str.split" (rSplit y):=by
 intro pins s σ H v vs u us Q I rx rv h
 obtain ⟨x,rfl,rfl,h1,h2,K⟩:=h
 obtain ⟨t,rfl⟩:=rx
 obtain ⟨u',rfl,t',rfl⟩:=rv.one
 have z:(1000:Nat)≤sizeLine:=by decide
 refine call_meets slot_str_split (typeIs_str _ _ _) PySem.F.entry_str_split (PySem.F.args_str_split_2 _ _) (kx x y t t' hy (Nat.le_trans h1 z) (Nat.le_trans h2 z)) fun us tk hv=>?_
 exact ⟨.ref s.heap.objs.size,_,I.laid (t':=tk) (o:=.lst ((aD x y).map .str)) (fun b o q=>Heap.get?_push_of_some _ q) (Nat.le_refl _) ⟨by rw [List.length_map];exact Nat.le_trans h2 z,us,_,hv,Heap.get?_push_size _ rfl⟩,rfl,K _ I.fresh⟩
theorem gv (ho:DE X o fo) (hy:(y.length==0)=false:=by decide) (hbase:attributeBase o "split" X.env (eval o X.env)=eval o X.env:=by rfl)
  (hfew:((backTo cpos (starEach [.Constant (.str y) j p] X.env)).all (fun x=>!x.1)&&(backToKw cpos (keywordEach [] X.env)).all (fun x=>x.1.isSome)
   &&decide ([Expr.Constant (.str y) j p].length+([]:List Keyword).length+(if ([]:List Keyword).isEmpty then 0 else 1)<30))=true:=by rfl)
  (hline:(apos.endLine==cpos.line)=true:=by rfl) (hs:starEach [.Constant (.str y) j p] X.env=(false,eval (.Constant (.str y) j p) X.env)::starEach [] X.env:=by exact aE rfl) :
  DE X (.Call (.Attribute o "split" apos) [.Constant (.str y) j p] [] cpos) (cf y fo):=.mk <|
 (pe_bm plainAttrs_str slot_str_split PySem.F.type_str_split (mt_split hy) ho.go (a5 iq cr hs) hbase hfew hline hs).weak fun σ H Q ⟨Hs,δ,r,S,En,e,K⟩=>by
  unfold cf at e
  cases ea:fo δ with
  | none=>rw [ea] at e;cases e
  | some ra=>
   rw [ea] at e
   refine ⟨Hs,δ,ra,S,En,ea,fun v Hs1 H1 W1 R1=>?_⟩
   have vw:=R1.view
   replace e:(match ra.view with
    | .str x=>if x.length≤1000∧(aD x y).length≤1000 then some (R.fr ((aD x y).map .str)) else none
    | _=>none)=some r:=e
   cases hv:ra.view with
   | str x=>
    rw [hv] at e vw
    replace e:(if x.length≤1000∧(aD x y).length≤1000 then some (R.fr ((aD x y).map .str)) else none)=some r:=e
    by_cases hz:x.length≤1000∧(aD x y).length≤1000
    ·
     rw [if_pos hz] at e
     cases e
     have hv':=vw.str
     subst hv'
     refine ⟨rfl,x,rfl,rfl,hz.1,hz.2,fun l hl=>K _ Hs1 _ (W1.trans (.fresh W1.sub hl)) ⟨l,_,rfl,W1.keep.free hl,W1.sub.free hl,aj,jo _⟩⟩
    ·
     rw [if_neg hz] at e;cases e
   | _=>rw [hv] at e;cases e
end
end Ew
namespace Ew
open PySem PySem.Spec L2
def eD:List D→Option (List Str)
 | []=>some []
 | .str x::r=>(eD r).map (x::·)
 | _=>none
theorem ky {H:Hp}:∀ {ds:List D} {ts:List Str} {vs:List V} {us:List Value},eD ds=some ts→av H ds vs→aA vs us→∃ l:List (Str×Tok),us=strValues l∧l.map (·.1)=ts
 | [],ts,vs,us,e,r,q=>by
  unfold eD at e;cases e
  unfold av at r;subst r
  cases q
  exact ⟨[],rfl,rfl⟩
 | d::ds,ts,vs,us,e,r,q=>by
  match d,e with
  | .str x,e=>
   unfold eD at e
   obtain ⟨ts',e1,rfl⟩:=Option.map_eq_some_iff.mp e
   unfold av at r
   obtain ⟨v,w,rfl,r1,r2⟩:=r
   unfold Rep at r1
   subst r1
   cases q with
   | cons q1 q2=>
    obtain ⟨t,rfl⟩:=q1
    obtain ⟨l,rfl,e2⟩:=ky e1 r2 q2
    exact ⟨(x,t)::l,rfl,by rw [List.map_cons,e2]⟩
def cR (y:Str):List Str→Str
 | [x]=>x
 | l=>Builtin.Str.glued y l
def de (y:Str) (f:FE):FE:=fun δ=>(f δ).bind fun r=>match r.view with
 | .lst ds=>(eD ds).bind fun ts=>if Builtin.Str.tooLong (ts.toArray.foldl (·+·.length+y.length) 0)=false∧(cR y ts).length≤1000 then some (.sh (.str (cR y ts))) else none
 | _=>none
section
variable {X:Cx} {e:Expr} {fe:FE} {apos cpos:Pos} {y:Str} {j:Nat} {p:Pos}
def rJoin (y:Str):V→List V→Hp→VK→Prop:=fun v vs H Q=>v=.str y∧∃ Hs d ts a,vs=[.ref a]∧aB Hs H∧View Hs H (.lst d) (.ref a)∧eD d=some ts∧Builtin.Str.tooLong (ts.toArray.foldl (·+·.length+y.length) 0)=false∧(cR y ts).length≤1000∧Q (.str (cR y ts)) H
theorem mt_join:MtR X "str.join" (rJoin y):=by
 intro pins s σ H v vs u us Q I rx rv h
 obtain ⟨rfl,Hs,d,ts,a,rfl,S,vd,e1,e2,e3,K⟩:=h
 have z:(1000:Nat)≤sizeLine:=by decide
 obtain ⟨t,rfl⟩:=rx
 obtain ⟨a',ws,its,rfl,q1,h1,h2,rw',pl,hz⟩:=un_list I S vd rv
 cases q1
 obtain ⟨l,rfl,rfl⟩:=ky e1 h2 rw'
 refine call_meets slot_str_join (typeIs_str _ _ _) PySem.F.entry_str_join (PySem.F.args_str_join_2 _ _) (meets_str_join_list y t a l e2) ⟨pl.isList,?_⟩
 match l,e3,K with
 | [],e3,K=>exact ⟨Nat.le_trans e3 z,.str (cR y []),H,I.tok _,⟨_,rfl⟩,K⟩
 | [q],e3,K=>exact ⟨.str q.1,H,I,⟨q.2,rfl⟩,K⟩
 | q1::q2::l,e3,K=>exact ⟨Nat.le_trans e3 z,.str (cR y ((q1::q2::l).map (·.1))),H,I.tok _,⟨_,rfl⟩,K⟩
theorem iI (he:DE X e fe) (hbase:attributeBase (.Constant (.str y) j p) "join" X.env (eval (.Constant (.str y) j p) X.env)=eval (.Constant (.str y) j p) X.env:=by rfl)
  (hfew:((backTo cpos (starEach [e] X.env)).all (fun x=>!x.1)&&(backToKw cpos (keywordEach [] X.env)).all (fun x=>x.1.isSome)
   &&decide ([e].length+([]:List Keyword).length+(if ([]:List Keyword).isEmpty then 0 else 1)<30))=true:=by rfl)
  (hline:(apos.endLine==cpos.line)=true:=by rfl) (hs:starEach [e] X.env=(false,eval e X.env)::starEach [] X.env:=by exact aE rfl) :
  DE X (.Call (.Attribute (.Constant (.str y) j p) "join" apos) [e] [] cpos) (de y fe):=.mk <|
 (pe_bm plainAttrs_str slot_str_join PySem.F.type_str_join mt_join iq (a5 he.go cr hs) hbase hfew hline hs).weak fun σ H Q ⟨Hs,δ,r,S,En,e,K⟩=>by
  unfold de at e
  cases ea:fe δ with
  | none=>rw [ea] at e;cases e
  | some ra=>
   rw [ea] at e
   refine ⟨rfl,Hs,δ,ra,S,En,ea,fun v Hs1 H1 W1 R1=>?_⟩
   have vw:=R1.view
   replace e:(match ra.view with
    | .lst ds=>(eD ds).bind fun ts=>if Builtin.Str.tooLong (ts.toArray.foldl (·+·.length+y.length) 0)=false∧(cR y ts).length≤1000 then some (R.sh (.str (cR y ts))) else none
    | _=>none)=some r:=e
   cases hv:ra.view with
   | lst ds=>
    rw [hv] at e vw
    replace e:((eD ds).bind fun ts=>if Builtin.Str.tooLong (ts.toArray.foldl (·+·.length+y.length) 0)=false∧(cR y ts).length≤1000 then some (R.sh (.str (cR y ts))) else none)=some r:=e
    cases es:eD ds with
    | none=>rw [es] at e;cases e
    | some ts=>
     rw [es] at e
     replace e:(if Builtin.Str.tooLong (ts.toArray.foldl (·+·.length+y.length) 0)=false∧(cR y ts).length≤1000 then some (R.sh (.str (cR y ts))) else none)=some r:=e
     by_cases hz:Builtin.Str.tooLong (ts.toArray.foldl (·+·.length+y.length) 0)=false∧(cR y ts).length≤1000
     ·
      rw [if_pos hz] at e
      cases e
      obtain ⟨a,vs,rfl,_⟩:=vw.lst W1.sub
      exact ⟨rfl,Hs1,ds,ts,a,rfl,W1.sub,vw,es,hz.1,hz.2,K _ Hs1 H1 W1 (shS _ _ _ _)⟩
     ·
      rw [if_neg hz] at e;cases e
   | _=>rw [hv] at e;cases e
end
end Ew
end
section
namespace Ew
open PySem PySem.Spec L2
def cW:D→Option R
 | .int i=>if i.natAbs.log2<1920 then some (.sh (.str (toString i))) else none
 | _=>none
def oCh:D→D→Option R
 | .str z,.int i=>if 0≤i∧i<z.length∧z.length≤1000 then (z.cps[i.toNat]?).map fun c=>.sh (.str ⟨#[c]⟩) else none
 | _,_=>none
def bq (x:Str) (lo hi:Option Int):Str:=
 if ((Builtin.Str.strSliceIndices lo hi 1 x.length).length==x.length)=true then x else ⟨((Builtin.Str.strSliceIndices lo hi 1 x.length).filterMap (x.cps[·]?)).toArray⟩
section
variable {X:Cx} {a b e:Expr} {fa fb f:FE} {fl fh:FO} {lo hi:Option Expr} {p2 pos:Pos}
theorem c_str:bN X (.type "str") (rC1 cW):=by
 intro pins s σ H xs us Q I rv h
 obtain ⟨x,rfl,Hs,d,r,S,vd,e,K⟩:=h
 match d,e,vd with
 | .int i,e,vd=>
  replace e:(if i.natAbs.log2<1920 then some (R.sh (.str (toString i))) else none)=some r:=e
  by_cases hz:i.natAbs.log2<1920
  ·
   rw [if_pos hz] at e;cases e
   have hx:=vd.int
   subst hx
   exact jB pins s σ H _ us Q I rv ⟨i,rfl,hz,K _ Hs H (.refl S) (shS _ _ _ _)⟩
  ·
   rw [if_neg hz] at e;cases e
theorem d_ch (ha:DE X a fa) (hb:DE X b fb) (hs:ke b:=by exact fun _ _=>rfl):DE X (.Subscript a b pos) (af oCh fa fb):=.mk <| (kf ha.go hb.go hs).weak fun σ H Q h=>by
 obtain ⟨Hs,δ,r,S,En,e,K⟩:=iA h
 refine ⟨Hs,δ,r,S,En,e,fun v Hs1 H1 W1 R1=>?_⟩
 obtain ⟨Hs2,δ2,r2,S2,En2,e2,K2⟩:=K v Hs1 H1 W1 R1
 refine ⟨Hs2,δ2,r2,S2,En2,e2,fun v2 Hs3 H3 W3 R3=>?_⟩
 obtain ⟨Hs4,d1,d2,r4,S4,v1',v2',e4,K4⟩:=K2 v2 Hs3 H3 W3 R3
 match d1,d2,e4,v1',v2' with
 | .str z,.int i,e4,v1',v2'=>
  replace e4:(if 0≤i∧i<z.length∧z.length≤1000 then (z.cps[i.toNat]?).map fun c=>R.sh (.str ⟨#[c]⟩) else none)=some r4:=e4
  by_cases hz:0≤i∧i<z.length∧z.length≤1000
  ·
   rw [if_pos hz] at e4
   obtain ⟨c,hc,rfl⟩:=Option.map_eq_some_iff.mp e4
   exact ⟨z,i,c,v1'.str,v2'.int,hz.1,by omega,hz.2.1,hc,K4 _ Hs4 H3 (.refl S4) (shS _ _ _ _)⟩
  ·
   rw [if_neg hz] at e4;cases e4
def rSlS:V→Option Int→Option Int→Hp→VK→Prop:=fun x lo hi H Q=>∃ z,x=.str z∧(bq z lo hi).length≤1000∧Q (.str (bq z lo hi)) H
theorem sl_str:SlR X rSlS:=by
 intro pins s σ H x v vl vu lo hi sl Q I rx hs pl pu h
 obtain ⟨z,rfl,hz,q⟩:=h
 obtain ⟨t,rfl⟩:=rx
 have go:∀ l u:Option (Int×Tok),vl=partValue l→vu=partValue u→l.map (·.1)=lo→u.map (·.1)=hi→wpAny (model X.prog X.w) X.A (getItem (.str z t) (.ref sl)) (EP X pins σ Q) X.xe s:=fun l u e1 e2 e3 e4=>by
  subst e1;subst e2;subst e3;subst e4
  refine wpAny_getItem_str_slice (l:=l) (u:=u) (st:=none) hs rfl ?_
  unfold sliceMade
  show (if (true&&(slicePicked z l u none).length==z.length)=true then _ else _:Made).post _ _
  have zz:(1000:Nat)≤sizeLine:=by decide
  unfold bq at q hz
  by_cases hc:((Builtin.Str.strSliceIndices (l.map (·.1)) (u.map (·.1)) 1 z.length).length==z.length)=true
  ·
   rw [if_pos (show (true&&(slicePicked z l u none).length==z.length)=true by rw [Bool.true_and];exact hc)]
   rw [if_pos hc] at q
   exact ⟨.str z,H,I,⟨t,rfl⟩,q⟩
  ·
   rw [if_neg (show ¬(true&&(slicePicked z l u none).length==z.length)=true by rw [Bool.true_and];exact hc)]
   rw [if_neg hc] at q hz
   exact ⟨Nat.le_trans hz zz,.str _,H,I.tok _,⟨_,rfl⟩,q⟩
 refine ⟨"str",_,PySem.F.slot_str_getitem.lookup,typeIs_str _ _ _,?_⟩
 cases pl <;> cases pu
 ·
  exact go none none rfl rfl rfl rfl
 ·
  exact go none (some (_,_)) rfl rfl rfl rfl
 ·
  exact go (some (_,_)) none rfl rfl rfl rfl
 ·
  exact go (some (_,_)) (some (_,_)) rfl rfl rfl rfl
def cy (f:FE) (fl fh:FO):FE:=fun δ=>(f δ).bind fun r=>(fl δ).bind fun lo=>(fh δ).bind fun hi=>match r.view with
 | .str z=>if (bq z lo hi).length≤1000 then some (.sh (.str (bq z lo hi))) else none
 | _=>none
theorem kz (he:DE X e f) (hl:DO X lo fl) (hh:DO X hi fh):DE X (.Subscript e (.Slice lo hi none p2) pos) (cy f fl fh):=.mk <|
 (kh sl_str he.go hl.go hh.go).weak fun σ H Q ⟨Hs,δ,r,S,En,e,K⟩=>by
  unfold cy at e
  cases ef:f δ with
  | none=>rw [ef] at e;cases e
  | some rf=>
   cases el:fl δ with
   | none=>rw [ef,el] at e;cases e
   | some lo=>
    cases eh:fh δ with
    | none=>rw [ef,el,eh] at e;cases e
    | some hi=>
     rw [ef,el,eh] at e
     refine ⟨Hs,δ,rf,S,En,ef,fun x Hs1 H1 W1 R1=>⟨Hs1,δ,lo,W1.sub,En.mono W1,el,fun Hs2 H2 W2=>⟨Hs2,δ,hi,W2.sub,En.mono (W1.trans W2),eh,fun Hs3 H3 W3=>?_⟩⟩⟩
     have vw:=((R1.mono W2).mono W3).view
     replace e:(match rf.view with
      | .str z=>if (bq z lo hi).length≤1000 then some (R.sh (.str (bq z lo hi))) else none
      | _=>none)=some r:=e
     cases hv:rf.view with
     | str z=>
      rw [hv] at e vw
      replace e:(if (bq z lo hi).length≤1000 then some (R.sh (.str (bq z lo hi))) else none)=some r:=e
      by_cases hz:(bq z lo hi).length≤1000
      ·
       rw [if_pos hz] at e
       cases e
       exact ⟨z,vw.str,hz,K _ Hs3 H3 (W1.trans (W2.trans W3)) (shS _ _ _ _)⟩
      ·
       rw [if_neg hz] at e;cases e
     | _=>rw [hv] at e;cases e
end
def inS (i j:Str):Bool:=!(Builtin.Str.occurrences j i 0 j.length 1).isEmpty
def oInS:D→D→Option R
 | .str i,.str j=>some (.sh (.bl (inS i j)))
 | _,_=>none
def dh:D→D→Option R
 | .str i,.str j=>some (.sh (.bl (!inS i j)))
 | _,_=>none
section
variable {X:Cx}
theorem iJ:OpR X (compareOp .NotIn) (rD dh):=by
 intro pins s σ H x y v u Q I rx ry h
 obtain ⟨Hs,d1,d2,r,S,v1,v2,e,K⟩:=h
 match d1,d2,e,v1,v2 with
 | .str i,.str j,e,v1,v2=>
  cases e
  exact jy pins s σ H x y v u Q I rx ry ⟨i,j,v1.str,v2.str,K _ Hs H (.refl S) (shB _ _ _ _)⟩
end
end Ew
namespace Ew
open PySem PySem.Spec L2
structure Kt (K:Frag) (mg:Str→Option Value) (n:Str) (ts:List Str):Prop where
 ex:∃ a o its k,mg n=some (.ref a)∧K.lookup a=some o∧o.cls=.type "tuple"∧o.dict=none∧o.data=.seq its k∧its.size≤sizeLine∧aA (ts.map V.str) its.toList
theorem inV_strs (z:Str) (ts:List Str):inV (.str z) (ts.map V.str)=ts.contains z:=by
 unfold inV
 induction ts with
 | nil=>rfl
 | cons t ts ih=>
  rw [List.map_cons,List.any_cons,List.contains_cons,ih]
  congr 1
  show (t==z)=(z==t)
  by_cases h:t=z
  ·
   subst h;rfl
  ·
   rw [beq_eq_false_iff_ne.2 h,beq_eq_false_iff_ne.2 (Ne.symm h)]
def dinK (neg:Bool) (ts:List Str) (f:FE):FE:=fun δ=>(f δ).bind fun r=>match r.view with
 | .str z=>some (.sh (.bl (if neg=true then !ts.contains z else ts.contains z)))
 | _=>none
section
variable {X:Cx} {e:Expr} {f:FE} {n:Str} {ts:List Str} {p pos:Pos}
theorem kA (he:DE X e f) (d:Kt X.K X.mg n ts) (hg:Gl X n:=by rfl) (hdb:(n==("__debug__" : Str))=false:=by decide) (hm:behindInMarks .NotIn (.Name n p)=false:=by rfl) :
  DT X (.Compare e [.NotIn] [.Name n p] pos) (ap (dinK true ts f)):=by
 obtain ⟨a,o,its,k,g1,g2,g3,g4,g5,g6,g7⟩:=d.ex
 refine .mk <| (pt_cmpR jF he.go (h8 (v:=.ref a) hg g1 rfl hdb) hm).weak fun σ H Q h=>?_
 obtain ⟨Hs,δ,r,S,En,e,K⟩:=ie h
 unfold dinK at e
 cases ef:f δ with
 | none=>rw [ef] at e;cases e
 | some rf=>
  rw [ef] at e
  refine ⟨Hs,δ,rf,S,En,ef,fun x Hs1 H1 W1 R1=>?_⟩
  have vw:=R1.view
  replace e:(match rf.view with
   | .str z=>some (R.sh (.bl (if true=true then !ts.contains z else ts.contains z)))
   | _=>none)=some r:=e
  cases hv:rf.view with
  | str z=>
   rw [hv] at e vw
   cases e
   have hx:=vw.str
   subst hx
   refine ⟨a,ts.map V.str,rfl,.inr (.inr ⟨o,its,k,g2,g3,g5,g6,g7⟩),rfl,by simp [gc],?_⟩
   rw [inV_strs]
   exact K _ Hs1 H1 W1 (shB _ _ _ _)
  | _=>rw [hv] at e;cases e
end
end Ew
namespace Ew
open PySem PySem.Spec L2
section
variable {prog:Program} {w:World} {A:Around} {E:Value→Shared→Prop} {s:Shared}
theorem index_loop {its:Array Value} {z:Str} {t:Tok} {Q:Option PySem.Fin×Unit→Shared→Prop}:∀ (ts:List Str) (i:Nat),aA (ts.map V.str) (its.toList.drop i)→z∈ts→Q (some (.done (.ret (.int ((i+ts.idxOf z:Nat):Int) s.toks))),()) { s with toks:=s.toks+1 }→
  wpAny (model prog w) A (forIn (List.range' i ts.length) ((none,()):Option PySem.Fin×Unit) fun (i:Nat) __s=>match its[i]? with
   | some y=>do
    let __do_lift ←eqBool y (.str z t)
    if __do_lift=true then do
     let __do_lift ←retInt (i:Int)
     pure (ForInStep.done (some __do_lift,()))
    else pure (ForInStep.yield (none,()))
   | x=>pure (ForInStep.yield (none,()))) Q E s
 | [],i,_,hz,_=>by cases hz
 | x::ts,i,hv,hz,h=>by
  rw [List.length_cons,List.range'_succ,List.forIn_cons]
  rw [List.map_cons] at hv
  cases hd:its.toList.drop i with
  | nil=>rw [hd] at hv;cases hv
  | cons u us=>
   rw [hd] at hv
   cases hv with
   | cons hu hv=>
    have hi:its[i]?=some u:=by
     rw [←Array.getElem?_toList,←List.head?_drop,hd];rfl
    have hn:its.toList.drop (i+1)=us:=by rw [←List.tail_drop,hd];rfl
    rw [hi]
    refine wpAny_bind (wpAny_bind (eqAt_V (y:=.str x) (x:=.str z) hu ⟨t,rfl⟩ rfl rfl prog w _ _ ?_))
    by_cases hx:x=z
    ·
     subst hx
     rw [show eqV (.str x) (.str x)=true from by show (x==x)=true;simp,if_pos rfl]
     refine wpAny_bind (wpAny_bind (wpAny_mkInt (wpAny_pure (wpAny_pure (wpAny_pure ?_)))))
     simpa using h
    ·
     rw [show eqV (.str x) (.str z)=false from by show (x==z)=false;simpa using hx,if_neg Bool.false_ne_true]
     refine wpAny_pure (index_loop ts (i+1) (by rw [hn];exact hv) (by rcases List.mem_cons.mp hz with q | q;exact absurd q.symm hx;exact q) ?_)
     rw [List.idxOf_cons] at h
     have:(x==z)=false:=by simpa using hx
     rw [this] at h
     simpa [Nat.add_assoc,Nat.add_comm 1] using h
theorem kB {a:Addr} {o:Obj} {its:Array Value} {n:Nat} {ts:List Str} {z:Str} {t:Tok} {Q:PySem.Fin→Shared→Prop}
  (ho:s.heap.get? a=some o) (hd:o.data=.seq its n) (hv:aA (ts.map V.str) its.toList) (hz:z∈ts) (h:Q (.done (.ret (.int (ts.idxOf z:Nat) s.toks))) { s with toks:=s.toks+1 }) :
  wpAny (model prog w) A (Builtin.«tuple.index» ⟨[.ref a,.str z t],[]⟩) Q E s:=by
 unfold Builtin.«tuple.index»
 refine wpAny_bind (wpAny_of_eq (a:=(Value.ref a,[Value.str z t])) rfl ?_)
 refine wpAny_bind (wpAny_tupleItemsOf ho hd ?_)
 show wpAny _ _ ((forIn [0:min its.size its.size] (none,()) _) >>= _) _ _ _
 rw [Std.Legacy.Range.forIn_eq_forIn_range',Nat.min_self]
 have hl:its.size=ts.length:=by
   have:=hv.length
   simpa using this.symm
 refine wpAny_bind ?_
 rw [show (⟨0,its.size,1,by decide⟩ : Std.Legacy.Range).size=ts.length by simp [Std.Legacy.Range.size,hl]]
 refine index_loop ts 0 (by simpa using hv) hz ?_
 exact wpAny_pure (by simpa using h)
end
def dixK (ts:List Str) (f:FE):FE:=fun δ=>(f δ).bind fun r=>match r.view with
 | .str z=>if z∈ts then some (.sh (.int (ts.idxOf z:Nat))) else none
 | _=>none
section
variable {X:Cx} {e:Expr} {f:FE} {n:Str} {ts:List Str} {p apos cpos:Pos}
def rIxK (a:Addr) (ts:List Str):V→List V→Hp→VK→Prop:=fun x vs H Q=>x=.ref a∧∃ z,vs=[.str z]∧z∈ts∧Q (.int (ts.idxOf z:Nat)) H
theorem mt_ixK {a:Addr} {o:Obj} {its:Array Value} {k:Nat} (g2:X.K.lookup a=some o) (g3:o.cls=.type "tuple") (g5:o.data=.seq its k) (g7:aA (ts.map V.str) its.toList):MtR X "tuple.index" (rIxK a ts):=by
 intro pins s σ H x vs v us Q I rx rv h
 obtain ⟨rfl,z,rfl,hz,K⟩:=h
 cases (show v=Value.ref a from rx)
 obtain ⟨u,rfl,t,rfl⟩:=rv.one
 have ho:s.heap.get? a=some o:=I.kIn a o g2
 exact wpAny_call (codeAny_call_builtin PySem.F.slot_tuple_index.plain PySem.F.entry_tuple_index (PySem.F.slot_tuple_index.check _ _ _ _ _ _ _ _ ⟨o,ho,g3⟩ (PySem.F.args_tuple_index_2 _ _) (kB ho g5 g7 hz ⟨.int _,H,I.tok _,⟨_,rfl⟩,K⟩)))
theorem d_ixK (d:Kt X.K X.mg n ts) (he:DE X e f) (hg:Gl X n:=by rfl) (hdb:(n==("__debug__" : Str))=false:=by decide) (hbase:attributeBase (.Name n p) "index" X.env (eval (.Name n p) X.env)=eval (.Name n p) X.env:=by rfl)
  (hfew:((backTo cpos (starEach [e] X.env)).all (fun x=>!x.1)&&(backToKw cpos (keywordEach [] X.env)).all (fun x=>x.1.isSome)
   &&decide ([e].length+([]:List Keyword).length+(if ([]:List Keyword).isEmpty then 0 else 1)<30))=true:=by rfl)
  (hline:(apos.endLine==cpos.line)=true:=by rfl) (hs:starEach [e] X.env=(false,eval e X.env)::starEach [] X.env:=by exact aE rfl) :
  DE X (.Call (.Attribute (.Name n p) "index" apos) [e] [] cpos) (dixK ts f):=by
 obtain ⟨a,o,its,k,g1,g2,g3,g4,g5,g6,g7⟩:=d.ex
 refine .mk <| (pe_bm PySem.F.plainAttrs_tuple PySem.F.slot_tuple_index PySem.F.type_tuple_index (mt_ixK g2 g3 g5 g7) (h8 (v:=.ref a) hg g1 rfl hdb) (a5 he.go cr hs) hbase hfew hline hs).weak fun σ H Q ⟨Hs,δ,r,S,En,e,K⟩=>?_
 unfold dixK at e
 cases ef:f δ with
 | none=>rw [ef] at e;cases e
 | some rf=>
  rw [ef] at e
  refine ⟨.inr (.inl ⟨rfl,o,g2,g3,g4⟩),Hs,δ,rf,S,En,ef,fun x Hs1 H1 W1 R1=>?_⟩
  have vw:=R1.view
  replace e:(match rf.view with
   | .str z=>if z∈ts then some (R.sh (.int (ts.idxOf z:Nat))) else none
   | _=>none)=some r:=e
  cases hv:rf.view with
  | str z=>
   rw [hv] at e vw
   replace e:(if z∈ts then some (R.sh (.int (ts.idxOf z:Nat))) else none)=some r:=e
   by_cases hz:z∈ts
   ·
    rw [if_pos hz] at e
    cases e
    have hx:=vw.str
    subst hx
    exact ⟨rfl,z,rfl,hz,K _ Hs1 H1 W1 (shI _ _ _ _)⟩
   ·
    rw [if_neg hz] at e;cases e
  | _=>rw [hv] at e;cases e
end
end Ew
end
section
namespace Ew
open PySem PySem.Spec L2
def tXE (E:XK) (H0 Hs0:Hp) (G:DSt→Option Addr):TE:=fun σ H _=>∃ Hs δ C,Wd H0 Hs0 Hs H∧StR H0 Hs H δ σ∧G δ=some C∧∀ Hs' H',Wd H0 Hs0 Hs' H'→E (.ref C) none H'
structure DEX (X:Cx) (E:XK) (e:Expr) (G:DSt→Option Addr):Prop where
 go:∀ H0 Hs0,PE X e (tXE E H0 Hs0 G)
def tXA (E:XK) (H0 Hs0:Hp) (G:DSt→Option Addr):TA:=fun σ H _=>∃ Hs δ C,Wd H0 Hs0 Hs H∧StR H0 Hs H δ σ∧G δ=some C∧∀ Hs' H',Wd H0 Hs0 Hs' H'→E (.ref C) none H'
structure DAX (X:Cx) (E:XK) (es:List Expr) (G:DSt→Option Addr):Prop where
 go:∀ H0 Hs0,PA X es (tXA E H0 Hs0 G)
section
variable {X:Cx} {E:XK} {e:Expr} {es:List Expr} {G:DSt→Option Addr} {pos:Pos}
theorem dx_ret (h:DEX X E e G):DX X E (.Return (some e) pos) G:=.mk fun H0 Hs0=>(jx (h.go H0 Hs0)).weak fun D σ H q=>q
theorem dx_set {i:Nat} {x:Str} {pos':Pos} (hN:X.N.Nodup) (hi:X.N[i]?=some x) (hx:Loc X.env.scope x) (he:DEX X E e G) (hs:swapsWith e (some (.Name x pos')) pos.line X.env=pure false:=by rfl)
 (hf:X.fn x=true∨X.env.scope.names.lookup x=some .local:=by first | exact .inl rfl | exact .inr rfl | assumption):DX X E (.Assign [.Name x pos'] e pos) G:=.mk fun H0 Hs0=>(ps_set hN hi hx (he.go H0 Hs0) hs hf).weak fun D σ H q=>q
theorem kC (h:DEX X E e G) (hp:∃ t,PA X es t) (hs:starEach (e::es) X.env=(false,eval e X.env)::starEach es X.env:=by exact aE rfl):DAX X E (e::es) G:=.mk fun H0 Hs0=>by
 obtain ⟨t,ht⟩:=hp
 exact (a5 (h.go H0 Hs0) ht hs).weak fun σ H Q q=>q
def xnext (f:FE) (G:DSt→Option Addr):DSt→Option Addr:=fun δ=>(f δ).bind fun _=>G δ
theorem dax_next {f:FE} (h:DE X e f) (ht:DAX X E es G) (hs:starEach (e::es) X.env=(false,eval e X.env)::starEach es X.env:=by exact aE rfl):DAX X E (e::es) (xnext f G):=.mk fun H0 Hs0=>
 (a5 h.go (ht.go H0 Hs0) hs).weak fun σ H Q ⟨Hs,δ,C,W,S,e,P⟩=>by
  unfold xnext at e
  cases ef:f δ with
  | none=>rw [ef] at e;cases e
  | some r=>
   rw [ef] at e
   exact ⟨Hs,δ,r,W.sub,S.ent,ef,fun v Hs1 H1 W1 R1=>⟨Hs1,δ,C,W.trans W1,S.mono W1,e,P⟩⟩
end
section
variable {X:Cx} {E:XK} {x q:Str} {st:Stmt} {ps:List Str} {f:Addr} {fd:FuncData} {k n:Nat} {m:List D→Option Addr} {e:Expr} {es:List Expr} {fr:DSt→Option (List R)} {p pos:Pos} {G:DSt→Option Addr}
theorem dex_tup {x1:Nat} (h:DAX X E es G):DEX X E (.Tuple es x1 pos) G:=.mk fun H0 Hs0=>(pe_tup (h.go H0 Hs0)).weak fun σ H Q q=>q
end
end Ew
end
section
namespace L2
open PySem PySem.Spec PyProof.Rows Ew
theorem iZ {prog:Program} {w:World} {A:Around} {R:Result→Shared→Prop} {s:Shared} {elt target iter:Expr} {ifs:List Expr} {scope:Scope} {pos:Pos} {it acc:Value} {env:Env} (J:Nat→Shared→Prop) (Z:Value→Shared→Prop) (hZ:∀ e s,Z e s→notedBy (model prog w) A env (fun x s'=>R (.error x) s') e s)
  (turn:∀ n s,J n s→wpAny (model prog w) A (pyNext it) (fun r s₁=>match r with
   | none=>R (.ok .next) s₁
   | some v=>wpAny (model prog w) A (letOwnedTupleGo target it v) (fun _ s₂=>wpAny (model prog w) A (assign target env v) (fun _ s₃=>
    wpAny (model prog w) A (forIn ifs true fun c r=>if r=true then do let ok ←isTrue c env (eval c env);pure (ForInStep.yield ok) else pure (ForInStep.yield r)) (fun ok s₄=>
     if ok=true then wpAny (model prog w) A (eval elt env) (fun x s₅=>
      wpAny (model prog w) A (call (.builtin "list.append") [acc,x]) (fun _ s₆=>∃ m,m<n∧J m s₆) Z s₅) Z s₄
     else ∃ m,m<n∧J m s₄) Z s₃) Z s₂) Z s₁) Z s)
  (n:Nat) (h:J n s) :
  codeAny (model prog w) A (.compLoop (.ListComp elt [⟨target,iter,ifs,0⟩] scope pos) 0 it acc env) R s:=by
 refine codeAny_loop rfl J (fun n s hI=>?_) n h
 show wpAny _ A ((compTurn (.ListComp elt [⟨target,iter,ifs,0⟩] scope pos) 0 it acc env).onRaise (fun x=>do noteFrame x env;theTreesLotGoes x)) _ _ s
 refine wpAny_noted (wpAny_mono (E:=Z) ?_ (fun _ _ z=>z) hZ)
 rw [compTurn_list]
 refine wpAny_bind (wpAny_standAt (wpAny_bind (wpAny_mono (turn n s hI) (fun r s₁ h₁=>?_) fun e s z=>z)))
 cases r with
 | none=>exact wpAny_pure h₁
 | some v=>
  refine wpAny_bind (wpAny_mono h₁ (fun _ s₂ h₂=>?_) fun e s z=>z)
  refine wpAny_bind (wpAny_mono h₂ (fun _ s₃ h₃=>wpAny_bind (wpAny_mono h₃ (fun ok s₄ h₄=>?_) fun e s z=>z)) fun e s z=>z)
  cases ok with
  | false=>exact wpAny_pure ⟨rfl,h₄⟩
  | true=>
   exact wpAny_bind (wpAny_bind (wpAny_mono h₄ (fun x s₅ h₅=>wpAny_bind (wpAny_mono h₅ (fun _ s₆ h₆=>wpAny_pure (wpAny_pure ⟨rfl,h₆⟩)) fun e s z=>z)) fun e s z=>z))
def zx (X:Cx) (E:XK) (C:Addr) (H:Hp) (s:Shared) (fp:List Addr):Value→Shared→Prop:=fun e s'=>∃ ea Cc H' hb,e=.ref ea∧Flies X.prog X.w X.stack H s H' ea Cc hb .none fp s'∧E (.ref Cc) hb H'∧(∃ m,s'.heap.Ns C m)∧H' C=none
def bC (X:Cx) (E:XK) (N:List Str) (scope:Scope) (cl:List (Str×Addr)) (C:Addr) (s:Shared) (H:Hp) (fp:List Addr):Cx:=
 { X with N:=N,s₀:=s,H₀:=H,env:=compEnvC scope cl C X.env,outer:=X.stack,stack:=X.stack,ex:=fp,fn:=fun _=>false,pn:=[],xe:=zx X E C H s fp }
theorem zx_pass {X:Cx} {E:XK} {N:List Str} {scope:Scope} {cl:List (Str×Addr)} {C:Addr} {s:Shared} {H:Hp} {fp:List Addr}:bW (CXr X.prog X.w) (bC X E N scope cl C s H fp) E:=by
 intro pins σ H1 s1 e s' I h
 obtain ⟨ea,Cc,H',hb,rfl,⟨os,bare,un,hok,B,fl,old,tr,nb⟩,hE⟩:=h
 have un0:Un (frs X.stack) fp H H1 s.heap s1.heap:=I.base
 have un:Un (frs X.stack) [] H1 H' s1.heap s'.heap:=un
 have nil:∀ b:Addr,b∉([]:List Addr):=by simp
 obtain ⟨m,hn,_⟩:=I.loc
 have hn:s1.heap.Ns C m:=hn
 have hfree:H1 C=none:=I.free
 obtain ⟨oC,es,ep,gC,hd,sk,hm⟩:=hn
 have nC:C∉frs X.stack:=fun hm=>by
  obtain ⟨_,o,ho,_⟩:=I.ok.funs.mem hm
  have h1:=Heap.lt_size ho
  have h2:s.heap.objs.size≤C:=I.ok.above
  exact absurd (Nat.lt_of_lt_of_le h1 h2) (Nat.lt_irrefl _)
 refine ⟨ea,Cc,H',hb,rfl,⟨os.trans I.os,bare,⟨fun b o q n hb hx=>un.keep b o (un0.keep b o q n hb hx) (un0.free b o q n hx) hb (nil b),fun b o q n hb hx=>?_,fun b o q n hx=>?_,fun b o q hx=>?_,fun b xs q=>un.tups b xs (un0.tups b xs q),fun b o u q=>un.frzs b o u (un0.frzs b o u q),fun b ps q=>?_⟩,hok,B,fl,fun b o q h1 h2=>?_,tr,nb⟩,hE,⟨m,oC,es,ep,un.keep C oC gC hfree nC (nil _),hd,sk,hm⟩,un.free C oC gC hfree (nil _)⟩
 ·
  obtain ⟨sl,e1⟩:=un0.slot b o q n hb hx
  obtain ⟨sl',e2⟩:=un.slot b _ e1 (un0.free b o q n hx) hb (nil b)
  exact ⟨sl',e2⟩
 ·
  obtain ⟨o1,e1⟩:=un0.there b o q hx
  exact un.free b o1 e1 (un0.free b o q n hx) (nil b)
 ·
  obtain ⟨o1,e1⟩:=un0.there b o q hx
  exact un.there b o1 e1 (nil b)
 ·
  obtain ⟨m1,e1⟩:=un0.tbls b ps q
  obtain ⟨m2,e2⟩:=un.tbls b _ e1
  exact ⟨m1++m2,by rw [e2,Array.append_assoc]⟩
 ·
  obtain ⟨o1,e1⟩:=un0.there b o q h2
  exact old b o1 e1 h1 (nil b)
section
variable {X:Cx} {tg elt iter:Expr} {ifs:List Expr} {scope:Scope} {pos:Pos} {N:List Str} {m:Nat} {ix:List Nat} {g:TG} {tt:TT} {te:TE}
theorem lj {pins:List (Addr×Obj)} {s2:Shared} {σ:St} {H2:Hp} {it:Addr} {fp:List Addr} {tn:Nat→Heap→Prop} {J:It} {Q:VK} {EX:XK} {E:Value→Shared→Prop} {RR:Value→Addr→Result→Shared→Prop}
  (hex:X.ex=[]) (I2:Inv X pins σ H2 s2) (T:Turn X.prog X.w X.K tg J fp it tn) (st2:tn 0 s2.heap) (f2:∀ b∈fp,hJ X pins H2 b) (hc:X.calm=true) (S:bA X N m ix scope)
  (hin:∀ cl C s H fp,PG (bC X EX N scope cl C s H fp) tg g∧PIfs (bC X EX N scope cl C s H fp) ifs tt∧PE (bC X EX N scope cl C s H fp) elt te)
  (hW:∀ D,H2 D=none→∃ W:Nat→Nat→St→Hp→Prop,(∃ n,W 0 n (b6 m ix σ) (upd H2 D (.lst [])))∧cLoop J g tt te D W Q)
  (fin:∀ D C Hf s',Inv X pins σ Hf s'→Q (.ref D) Hf→(∃ mm,s'.heap.Ns C mm)→Hf C=none→C≠X.env.locals→X.s₀.heap.objs.size≤C→(∀ x c,X.env.cells.lookup x=some c→c≠C)→(∀ p∈X.pn++pins,p.1≠C)→RR (.ref D) C (.ok .next) s')
  (bad:∀ D C cl Hf s' e s'',Inv X pins σ Hf s'→(∀ b∈fp,X.s₀.heap.get? b=none)→(s'.heap.objs.size≤C)→zx X EX C Hf s' fp e s''→notedBy (model X.prog X.w) X.A (compEnvC scope cl C X.env) (fun x s3=>RR (.ref D) C (.error x) s3) e s'') :
  wpAny (model X.prog X.w) X.A (newList []) (fun acc s₃=>wpAny (model X.prog X.w) X.A (newFunctionEnv scope X.env.globals (cU X.env.cells scope.names []) [] X.env.qual none .none (some X.env)) (fun cenv s₄=>
   codeAny (model X.prog X.w) X.A (.compStart (.ListComp elt [⟨tg,iter,ifs,0⟩] scope pos) 0 (.ref it) acc { cenv with scope:=relabel scope X.env }) (RR acc cenv.locals) s₄) E s₃) E s2:=by
 have hcl:∀ p∈scope.names,p.2=.free→∃ c,X.env.cells.lookup p.1=some c:=fun p hp hk=>I2.ok.has _ (S.frees p hp hk)
 refine wpAny_newObj_type (wpAny_newFunctionEnv S.nocell (by intro y hy;simp at hy) (fun h₁ hns₁ hsb₁=>?_) S.kind)
 dsimp only at hns₁ hsb₁ ⊢
 obtain ⟨W,⟨n0,w0⟩,loop⟩:=hW s2.heap.objs.size I2.fresh
 have I3:Inv X pins σ (upd H2 s2.heap.objs.size (.lst [])) { s2 with heap:=s2.heap.push { cls:=.type "list",dict:=none,data:=.seq ([]:List Value).toArray } }:=I2.lnew (t':=s2.toks) (ys:=[]) (its:=[]) .nil (Nat.zero_le _)
 generalize hs3:({ s2 with heap:=s2.heap.push { cls:=.type "list",dict:=none,data:=.seq ([]:List Value).toArray } }:Shared)=s3 at I3
 generalize hH3:upd H2 s2.heap.objs.size (.lst [])=H3 at I3 w0
 have e3:s3.heap=s2.heap.push { cls:=.type "list",dict:=none,data:=.seq ([]:List Value).toArray }:=by rw [←hs3]
 rw [←e3] at hns₁ hsb₁ ⊢
 generalize hC:s3.heap.objs.size=C at hns₁ hsb₁ ⊢
 have old2:∀ b o,s2.heap.get? b=some o→s3.heap.get? b=some o:=fun b o e=>by rw [e3];exact Heap.get?_push_of_some _ e
 have old3:∀ b o,s3.heap.get? b=some o→h₁.get? b=some o:=fun b o e=>hsb₁.extBut b o (by rw [←hC];exact Nat.ne_of_lt (Heap.lt_size e)) (Heap.get?_push_of_some _ e)
 have fp3:∀ b∈fp,hJ X pins H3 b:=fun b hb=>by
  obtain ⟨f0,f1,f2',f3,f4,f5⟩:=f2 b hb
  refine ⟨?_,f1,f2',f3,f4,f5⟩
  obtain ⟨o,ho,_⟩:=T.obj _ _ st2 b hb
  rw [←hH3,ak (Nat.ne_of_lt (Heap.lt_size ho))]
  exact f0
 have hCL:X.env.locals<C:=by rw [←hC];exact I3.lt
 have hCs:X.s₀.heap.objs.size≤C:=by rw [←hC];exact I3.sz
 have hCc:∀ x c,X.env.cells.lookup x=some c→c<C:=fun x c e=>by
  obtain ⟨v,q⟩:=I3.cell x c e
  rw [←hC];exact q.lt
 have hCp:∀ p∈X.pn++pins,p.1<C:=fun p hp=>by rw [←hC];exact Heap.lt_size (I3.pin p hp).1
 have hCf:∀ b∈fp,b<C:=fun b hb=>by
  obtain ⟨o,ho,_⟩:=T.obj _ _ st2 b hb
  rw [←hC];exact Heap.lt_size (old2 _ _ ho)
 have hnew:∀ b∈fp,X.s₀.heap.get? b=none:=fun b hb=>by
  rcases (fp3 b hb).2.2.2.1 with z | z
  ·
   rw [hex] at z;cases z
  ·
   exact Heap.get?_none_of_le z
 let Y:Cx:=bC X EX N scope (cU X.env.cells scope.names []) C s3 H3 fp
 have cells_of:∀ x c,(cU X.env.cells scope.names []).lookup x=some c→X.env.cells.lookup x=some c:=fun x c e=>by
  rcases ic _ _ hcl e with q | q
  ·
   simp at q
  ·
   exact q
 have stkne:∀ b∈fp,b∉frs X.stack:=fun b hb hs=>by
  obtain ⟨_,f1,f2',_⟩:=fp3 b hb
  rcases List.mem_cons.mp (I3.stkSub b hs) with e | e
  ·
   exact f1 e
  ·
   exact f2' e
 have okY:Y.Ok:=by
  refine ⟨I3.ok.mod,S.kind,I3.ok.glob,I3.ok.blt,by show s3.heap.objs.size≤C;rw [hC];exact Nat.le_refl _,fun x y c h1 h2=>I3.ok.inj x y c (cells_of x c h1) (cells_of y c h2),fun x hx=>?_,fun x c h _=>absurd (show false=true from h) (by simp),I3.ok.hd,I3.ok.frames,.inl rfl,fun b hb=>⟨?_,fun x c e=>?_⟩,fun b o e=>I3.bs b o e,Nat.le_trans I3.ok.bsz I3.sz,fun b o e hb=>?_,stkne,I3.stack,I3.stkFree⟩
  ·
   have hx':(relabel scope X.env).names.lookup x=some .cell∨(relabel scope X.env).names.lookup x=some .free:=hx
   have hf:scope.names.lookup x=some .free:=by
    rcases hx' with q | q
    ·
     rcases bv q with z | z
     ·
      exact absurd rfl (S.nocell _ (PySem.mem_of_lookup z))
     ·
      exact z
    ·
     rcases bv q with z | z
     ·
      exact z
     ·
      exact z
   exact dC _ _ (PySem.mem_of_lookup hf)
  ·
   exact Nat.ne_of_lt (hCf b hb)
  ·
   exact (fp3 b hb).2.2.2.2.1 x c (cells_of x c e)
  ·
   rcases (fp3 b hb).2.2.2.1 with z | z
   ·
    exact I3.ok.noex b o e z
   ·
    exact absurd (Nat.lt_of_lt_of_le (Heap.lt_size (I3.ok.bs b o e).1) z) (Nat.lt_irrefl _)
 have IY:Inv Y (X.pn++pins) (b6 m ix σ) H3 { s3 with heap:=h₁,toks:=s3.toks+([]:List (Str×Value)).length }:=by
  refine ⟨okY,rfl,I3.bare,Un.kept old3,⟨_,hns₁,fun j x v hx hv hvis=>?_⟩,fun x c e=>?_,I3.hok.fresh (by rw [hC];exact Nat.le_refl _),fun x c e=>I3.freeC x c (cells_of x c e),fun p hp=>?_,I3.hok.kept old3,?_⟩
  ·
   have hx:N[j]?=some x:=hx
   unfold b6 at hv
   by_cases hj:j<m
   ·
    rw [List.getElem?_append_left (by simpa using hj),List.getElem?_replicate] at hv
    split at hv <;> cases hv
   ·
    obtain ⟨k,rfl⟩ : ∃ k,j=m+k:=⟨j-m,by omega⟩
    rw [List.getElem?_append_right (by simp),List.length_replicate,Nat.add_sub_cancel_left,List.getElem?_map] at hv
    cases hi:ix[k]? with
    | none=>rw [hi] at hv;cases hv
    | some i=>
     rw [hi] at hv
     have hv':(σ[i]?).join=some v:=by simpa using hv
     have hv'':σ[i]?=some (some v):=by
      cases q:σ[i]? with
      | none=>rw [q] at hv';cases hv'
      | some z=>rw [q] at hv';simp at hv';rw [hv']
     obtain ⟨hXN,hfree⟩:=S.share k i x hi hx
     obtain ⟨mm,hn,hl⟩:=I3.loc
     have hkx:X.env.kindOf x=some .cell∨X.env.kindOf x=some .free:=S.frees (x,.free) (PySem.mem_of_lookup hfree) rfl
     have hvisX:Vis X.env.scope x:=by
      rcases hkx with q | q
      ·
       exact .inr (.inl q)
      ·
       exact .inr (.inr q)
     obtain ⟨u,r,l⟩:=hl i x v hXN hv'' hvisX
     refine ⟨u,r,.inr ⟨?_,?_⟩⟩
     ·
      have hvis:Vis (relabel scope X.env) x:=hvis
      rcases hvis with q | q | q
      ·
       rcases bv q with z | z
       ·
        rw [hfree] at z;cases z
       ·
        exact absurd q (cO scope.names hfree)
      ·
       exact .inl q
      ·
       exact .inr q
     ·
      obtain ⟨c,hcc⟩:=dC (cs:=X.env.cells) scope.names [] (PySem.mem_of_lookup hfree)
      refine ⟨c,hcc,?_⟩
      have hXc:=cells_of x c hcc
      rcases l with ⟨k1,_⟩ | ⟨_,c',e',z⟩
      ·
       exfalso
       have k1:X.env.kindOf x=some .local:=k1
       rcases hkx with q | q <;> rw [k1] at q <;> cases q
      ·
       rw [hXc] at e';cases e'
       obtain ⟨o,ho,hd⟩:=z
       exact ⟨o,old3 _ _ ho,hd⟩
  ·
   obtain ⟨v,o,ho,hd⟩:=I3.cell x c (cells_of x c e)
   exact ⟨v,o,old3 _ _ ho,hd⟩
  ·
   have hp':p∈X.pn++pins:=by
    have:p∈([]:List (Addr×Obj))++(X.pn++pins):=hp
    simpa using this
   obtain ⟨e,nn,ne,nf,d⟩:=I3.pin p hp'
   refine ⟨old3 _ _ e,nn,Nat.ne_of_lt (hCp p hp'),fun hs=>?_,d⟩
   rcases List.mem_cons.mp (I3.stkSub p.1 hs) with z | z
   ·
    exact ne z
   ·
    exact nf z
  ·
   unfold b6
   show _=N.length
   rw [S.len,List.length_append,List.length_replicate,List.length_map]
 have stat:∀ {H':Hp},(∀ b∈fp,H' b=none)→∀ b∈fp,hJ Y (X.pn++pins) H' b:=fun hn b hb=>by
  obtain ⟨f0,f1,f2',f3,f4,f5⟩:=fp3 b hb
  refine ⟨hn b hb,Nat.ne_of_lt (hCf b hb),stkne b hb,.inl hb,fun x c e=>f4 x c (cells_of x c e),fun p hp=>?_⟩
  have hp':p∈X.pn++pins:=by
   have:p∈([]:List (Addr×Obj))++(X.pn++pins):=hp
   simpa using this
  exact f5 p hp'
 obtain ⟨hg,ht,he⟩:=hin (cU X.env.cells scope.names []) C s3 H3 fp
 have st4:tn 0 h₁:=T.keep _ _ _ st2 fun b _ o e=>old3 _ _ (old2 _ _ e)
 have run:∀ s4:Shared,s4={ s3 with heap:=h₁,toks:=s3.toks+([]:List (Str×Value)).length }→
   codeAny (model X.prog X.w) X.A (.compLoop (.ListComp elt [⟨tg,iter,ifs,0⟩] scope pos) 0 (.ref it) (.ref s2.heap.objs.size) (compEnvC scope (cU X.env.cells scope.names []) C X.env)) (RR (.ref s2.heap.objs.size) C) s4:=by
  rintro s4 rfl
  refine iZ (fun n s'=>∃ i σ' H',Inv Y (X.pn++pins) σ' H' s'∧tn i s'.heap∧(∀ b∈fp,H' b=none)∧W i n σ' H') (zx X EX C H3 s3 fp) (fun e s' hz=>bad _ C _ H3 s3 e s' I3 hnew (by rw [hC];exact Nat.le_refl _) hz) ?_ n0 ⟨0,_,_,IY,st4,fun b hb=>(fp3 b hb).1,w0⟩
  rintro n s5 ⟨i,σ5,H5,I5,st5,fr5,w5⟩
  rcases loop i n σ5 H5 w5 with ⟨stop,qn⟩ | ⟨go,NN,hN,step⟩
  ·
   refine thn (T.done Y rfl rfl rfl hc i (X.pn++pins) s5 σ5 H5 (zx X EX C H3 s3 fp) I5 (stat fr5) st5 stop) fun r s6 ⟨hr,I6⟩=>?_
   subst hr
   have J6:Inv X pins σ H5 s6:=by
    refine I3.call' (ch:=fp) ?_ I6.base I6.hok I6.bare fun b hb=>?_
    ·
     exact I6.os
    ·
     obtain ⟨f0,f1,f2',f3,f4,f5⟩:=fp3 b hb
     exact ⟨f3,f1,f4,f5⟩
   obtain ⟨mm,hn6,_⟩:=I6.loc
   exact fin _ C H5 s6 J6 qn ⟨mm,hn6⟩ I6.free (Nat.ne_of_gt hCL) hCs (fun x c e=>Nat.ne_of_lt (hCc x c e)) fun p hp=>Nat.ne_of_lt (hCp p hp)
  ·
   refine thn (T.item Y rfl rfl rfl hc i (X.pn++pins) s5 σ5 H5 (zx X EX C H3 s3 fp) I5 (stat fr5) st5 go) fun r s6 ⟨u,hr,h6⟩=>?_
   subst hr
   refine thn h6 fun _ s7 ⟨x,H7,I7,r7,y7,st7,fr7⟩=>?_
   have I7':=I7.pinned (stat fr7) (T.obj _ _ st7)
   refine thn (hg _ s7 σ5 H7 x u _ I7' r7 (step x H7 y7)) fun _ s8 ⟨σ8,H8,I8,q8⟩=>?_
   refine thn (ht _ s8 σ8 H8 _ I8 q8) fun ok s9 ⟨H9,I9,q9⟩=>?_
   have again:∀ {s':Shared} {σ':St} {H':Hp},Inv Y ((X.pn++pins)++gA fp s7.heap) σ' H' s'→NN σ' H'→∃ m',m'<n∧∃ i σ' H',Inv Y (X.pn++pins) σ' H' s'∧tn i s'.heap∧(∀ b∈fp,H' b=none)∧W i m' σ' H':=fun {s' σ' H'} I' n'=>by
    obtain ⟨m',hm,w'⟩:=hN σ' H' n'
    refine ⟨m',hm,i+1,σ',H',I'.unpinned,T.keep _ _ _ st7 fun b hb o e=>(I'.pin (b,o) (List.mem_append_right _ (List.mem_append_right _ (cq hb e)))).1,fun b hb=>?_,w'⟩
    obtain ⟨o,e,d⟩:=T.obj _ _ st7 b hb
    exact (I'.pin (b,o) (List.mem_append_right _ (List.mem_append_right _ (cq hb e)))).2.1
   cases ok with
   | false=>exact again I9 q9
   | true=>
    refine thn (he _ s9 σ8 H9 _ I9 q9) fun y s10 ⟨vy,H10,I10,r10,ys,hD,hz,q10⟩=>?_
    exact thn (gE (X:=Y) _ s10 σ8 H10 (.ref s2.heap.objs.size) [vy] _ [y] (fun _ H'=>NN σ8 H') I10 rfl (.cons r10 .nil) ⟨_,ys,vy,rfl,rfl,hD,hz,q10⟩) fun _ s11 ⟨_,H11,I11,_,q11⟩=>again I11 q11
 exact codeAny_compStart_list (run _ (by rw [←hs3])) (T.self _ 0 _ _ _ st4 (run _ (by rw [←hs3])))
theorem ff_less {h h' B B':Heap} {C:Addr} (hB:∀ b,B.get? b=none→B'.get? b=none) (sb:Heap.SameBut C h h'):∀ {l:List Env},C∉frs l→h.FunFrames B l→h'.FunFrames B' l
 | [],_,_=>trivial
 | env::l,hC,⟨k,⟨L,o,h1,h2,h3,h4⟩,r⟩=>by
  have hL:L≠C:=fun z=>hC (List.mem_filterMap.mpr ⟨env,List.mem_cons_self,by rw [h1,z]⟩)
  refine ⟨k,⟨L,o,h1,hB L h2,(sb.2 L hL).trans h3,h4⟩,ff_less hB sb (fun z=>hC ?_) r⟩
  obtain ⟨a,b,c⟩:=List.mem_filterMap.mp z
  exact List.mem_filterMap.mpr ⟨a,.tail _ b,c⟩
theorem Un.slotsX {fs ex:List Addr} {H H':Hp} {h h1 h2 B:Heap} (u:Un fs ex H H' h h1) (k:B.StaysIn h1) (hB:B.StaysIn h2) (up:∀ b∈fs,∀ o,h1.get? b=some o→(∀ vs,o.data≠.fields vs)→∃ sl,h2.get? b=some { o with slots:=sl })
  (old:∀ b o,h.get? b=some o→b∉fs→b∉ex→∃ o',B.get? b=some o') (nf:∀ b∈fs,∀ o,h1.get? b=some o→∀ vs,o.data≠.fields vs):Un fs ex H H' h h2 where
 keep:=fun b o q n hb hx=>by
  obtain ⟨o',z⟩:=old b o q hb hx
  have e:=k b o' z
  rw [u.keep b o q n hb hx] at e;cases e
  exact hB b o z
 slot:=fun b o q n hb hx=>by
  obtain ⟨sl,e⟩:=u.slot b o q n hb hx
  obtain ⟨sl',e'⟩:=up b hb _ e (nf b hb _ e)
  exact ⟨sl',e'⟩
 free:=u.free
 there:=fun b o q hx=>by
  by_cases hb:b∈fs
  ·
   obtain ⟨o',e⟩:=u.there b o q hx
   obtain ⟨sl,e'⟩:=up b hb _ e (nf b hb _ e)
   exact ⟨_,e'⟩
  ·
   obtain ⟨o',z⟩:=old b o q hb hx
   exact ⟨o',hB b o' z⟩
 tups:=u.tups
 frzs:=u.frzs
 tbls:=u.tbls
theorem comp_bad {EX:XK} {pins:List (Addr×Obj)} {σ:St} {Hf:Hp} {s':Shared} {fp:List Addr} {C D:Addr} {cl:List (Str×Addr)} {e:Value} {s'':Shared} {use:Option (Value→Sem Unit)} {Q:Value→Shared→Prop}
  (hX:XR X EX) (hst:X.stack=X.env::X.outer) (hfm:X.env.frame=some X.env.locals) (I:Inv X pins σ Hf s') (hch:∀ b∈fp,X.s₀.heap.get? b=none) (hC:s'.heap.objs.size≤C) (h:zx X EX C Hf s' fp e s'') :
  notedBy (model X.prog X.w) X.A (compEnvC scope cl C X.env) (fun x s3=>compPost (model X.prog X.w) X.A X.xe use Q (.ref D) C (.error x) s3) e s'':=by
 obtain ⟨ea,Cc,H',hb,rfl,⟨os,bare,un,hok,B,fl,old,tr,nb⟩,hE,⟨m,hn⟩,hC0⟩:=h
 show wpAny _ X.A (noteFrame (.ref ea) X.env) _ _ s''
 have hfr:X.A.frames=some (X.env::X.outer):=by rw [I.ok.frames,hst]
 have nC:C∉frs X.stack:=fun hm=>by
  obtain ⟨_,o,ho,_⟩:=I.stack.mem hm
  exact absurd (Nat.lt_of_lt_of_le (Heap.lt_size ho) hC) (Nat.lt_irrefl _)
 have nC':C∉frs (X.env::X.outer):=by rw [←hst];exact nC
 have fl':cV B hb (X.env::X.outer) ea (.ref Cc) .none s''.heap:=by rw [←hst];exact fl
 refine note2 hfr hfm fl' fun h1 f1 up1=>?_
 obtain ⟨oC,es,ep,gC,hd,sk,hm⟩:=hn
 obtain ⟨sl,gC1⟩:=up1 C oC gC (fun vs z=>by rw [hd] at z;cases z)
 have hn1:h1.Ns C m:=⟨_,es,ep,gC1,hd,sk,hm⟩
 have key:∃ m,h1.Ns C m∧∀ h',Heap.SameBut C h1 h'→∀ cenv:Env,cenv.locals=C→wpAny (model X.prog X.w) X.A (PySem.passOn "comprehension.variables-let-go" (.ref ea) cenv:Sem Value) (fun _ _=>False) X.xe { s'' with heap:=h' }:=by
  refine ⟨m,hn1,fun h' sb cenv hc=>?_⟩
  obtain ⟨a1,a2,a3,oe,vs,T,oT,ts,he,c1,c2,c3,c4,c5,c6,c7,c8,c9⟩:=f1
  have ne:∀ {b:Addr} {o:Obj} {vs:Array Value},h1.get? b=some o→o.data=.fields vs→b≠C:=fun q z w=>by
   rw [w,gC1] at q;cases q
   rw [show oC.data=_ from hd] at z;cases z
  have of':∀ b o,(hideAll B [C]).get? b=some o→B.get? b=some o:=fun b o q=>of_hideAll _ q
  have no':∀ b,B.get? b=none→(hideAll B [C]).get? b=none:=fun b q=>by
   cases z:(hideAll B [C]).get? b with
   | none=>rfl
   | some o=>rw [of' b o z] at q;cases q
  have to':∀ b o,B.get? b=some o→b≠C→(hideAll B [C]).get? b=some o:=fun b o q n=>hideAll_get _ q (by simpa using n)
  have noC:(hideAll B [C]).get? C=none:=hideAll_none _ (by simp)
  have neC:∀ b o,(hideAll B [C]).get? b=some o→b≠C:=fun b o q z=>by rw [z,noC] at q;cases q
  have f2:cV (hideAll B [C]) hb (X.env::X.outer) ea (.ref Cc) (rawInt X.env.locals) h':=by
   refine ⟨fun b o q=>(sb.2 b (neC b o q)).trans (a1 b o (of' b o q)),no' _ a2,ff_less no' sb nC' a3,oe,vs,T,oT,ts,(sb.2 ea (ne he c3)).trans he,c1,?_,c3,c4,no' _ c5,c6,(sb.2 T (ne c7 c8)).trans c7,c8,c9⟩
   rcases c2 with z | ⟨h2,o2,v2,e1,e2,e3,e4,e5⟩
   ·
    exact .inl z
   ·
    exact .inr ⟨h2,o2,v2,e1,e2,to' h2 o2 e3 (ne (a1 h2 o2 e3) e4),e4,e5⟩
  unfold PySem.passOn
  refine wpAny_bind (wpAny_field ((sb.2 ea (ne he c3)).trans he) c3 c4 ?_)
  rw [if_neg (by simp)]
  refine wpAny_bind (landF f2 fun h3 f3 up3=>wpAny_throw ?_)
  have nfr:∀ b∈frs X.stack,∀ o,s''.heap.get? b=some o→∀ vs,o.data≠.fields vs:=fun b hb o qo=>by
   obtain ⟨_,o',ho',hd⟩:=fl.2.2.1.mem hb
   rw [qo] at ho';cases ho'
   exact hd
  have old':∀ b o,s'.heap.get? b=some o→b∉frs X.stack→b∉fp→∃ o',(hideAll B [C]).get? b=some o':=fun b o q h1 h2=>by
   obtain ⟨o',z⟩:=old b o q h1 h2
   exact ⟨o',to' b o' z (Nat.ne_of_lt (Nat.lt_of_lt_of_le (Heap.lt_size q) hC))⟩
  have tr':∀ b u,H' b=some u→∃ o',(hideAll B [C]).get? b=some o':=fun b u q=>by
   obtain ⟨o',z⟩:=tr b u q
   exact ⟨o',to' b o' z fun w=>by rw [w,hC0] at q;cases q⟩
  refine hX.held pins σ Hf s' ea Cc H' hb _ fp _ I ⟨os,bare,un.slotsX (fun b o q=>fl.1 b o (of' b o q)) f3.1 (fun b hb o q nf=>?_) old' nfr,hok.slots (fun b o q=>fl.1 b o (of' b o q)) f3.1 tr',_,by rw [hst];exact f3,old',tr',nb⟩ hch hE
  obtain ⟨sl1,e1⟩:=up1 b o q nf
  have nb:b≠C:=fun z=>nC (z▸hb)
  obtain ⟨sl3,e3⟩:=up3 b _ ((sb.2 b nb).trans e1) nf
  exact ⟨sl3,e3⟩
 cases use <;> exact key
theorem ps_compX {wi:TI} {EX:XK} {y:Str} {py spos:Pos} {iy:Nat} (hX:XR X EX) (hst:X.stack=X.env::X.outer) (hfm:X.env.frame=some X.env.locals) (hex:X.ex=[]) (hc:X.calm=true) (S:bA X N m ix scope) (hi:PI X tg iter wi)
  (hin:∀ cl C s H fp,PG (bC X EX N scope cl C s H fp) tg g∧PIfs (bC X EX N scope cl C s H fp) ifs tt∧PE (bC X EX N scope cl C s H fp) elt te)
  (hN:X.N.Nodup) (hiy:X.N[iy]?=some y) (hy:Loc X.env.scope y)
  (hsw:swapsWith (.ListComp elt [⟨tg,iter,ifs,0⟩] scope pos) (some (.Name y py)) spos.line X.env=pure true:=by rfl)
  (hf:X.fn y=true∨X.env.scope.names.lookup y=some .local:=by first | exact .inl rfl | exact .inr rfl | assumption)
  (hs:∀ x,foldedSetIterable iter X.env x=pure x:=by intro _;rfl):PS X (.Assign [.Name y py] (.ListComp elt [⟨tg,iter,ifs,0⟩] scope pos) spos) (tAsg (je wi g tt te m ix) (i8 iy)):=by
 intro pins s σ H D0 I h
 rw [exec_Assign_Name_used _ _ _ _ hsw]
 refine wpAny_bind (wpAny_standAt (wpAny_bind ?_))
 show wpAny _ X.A (do let _ ←comprehension (.ListComp elt [⟨tg,iter,ifs,0⟩] scope pos) scope X.env _ (newList []) false (eval iter X.env) (some (assign (.Name y py) X.env))) _ _ s
 refine wpAny_bind (wpAny_mono (wpAny_comprehension_free (use:=some (assign (.Name y py) X.env)) (Q:=fun _ s'=>SP X pins D0 .next s') rfl hs (dw fun p hp hk=>I.ok.has _ (S.frees p hp hk)) S.kind S.names ?_) (fun _ s' hq=>wpAny_pure (wpAny_pure hq)) fun _ _ e=>e)
 refine thn (hi pins s σ H _ I h) fun v s1 h1=>thn h1 fun itv s2 h2=>?_
 obtain ⟨it,fp,tn,J,H2,rfl,I2,T,st2,f2,hW⟩:=h2
 refine lj (RR:=fun acc C=>compPost (model X.prog X.w) X.A X.xe (some (assign (.Name y py) X.env)) (fun _ s'=>SP X pins D0 .next s') acc C) hex I2 T st2 f2 hc S hin hW ?_ (fun D C cl Hf s' e s'' I' h1 h2 h3=>comp_bad hX hst hfm I' h1 h2 h3)
 intro D C Hf s' J' q hn hCf hCL hCs hCc hCp
 obtain ⟨mm,hn⟩:=hn
 show wpAny _ X.A (assign (.Name y py) X.env (.ref D)) _ _ _
 refine wpAny_assign_Name (gz (v:=.ref D) J' hN hiy hy rfl (fun s'' I'' hsb=>?_) hf)
 obtain ⟨a,hsb,ha⟩:=hsb
 have hCa:C≠a:=by
  rcases ha with e | e
  ·
   rw [e];exact hCL
  ·
   exact fun z=>hCc y a e z.symm
 refine ⟨mm,hn.sameBut hsb hCa,fun h' hs'=>⟨_,Hf,?_,q⟩⟩
 exact I''.turned (t':=s''.toks) (fun b o hb e=>hs'.extBut b o hb e) hCf hCL (.inr hCs) hCc hCp
end
end L2
namespace Ew
open PySem PySem.Spec L2
def tXB (E:XK) (G:DSt→Option Addr):TE:=fun σ H _=>∃ Hs δ C,aB Hs H∧cG Hs H δ σ∧G δ=some C∧∀ Hs' H',Wd H Hs Hs' H'→E (.ref C) none H'
structure DEB (X:Cx) (E:XK) (e:Expr) (G:DSt→Option Addr):Prop where
 go:PE X e (tXB E G)
theorem tXE_B {E:XK} {H0 Hs0:Hp} {G:DSt→Option Addr} {σ:St} {H:Hp} {Q:VK} (h:tXE E H0 Hs0 G σ H Q):tXB E G σ H Q:=
 let ⟨Hs,δ,C,W,S,e,P⟩:=h
 ⟨Hs,δ,C,W.sub,S.ent,e,fun Hs' H' W'=>P Hs' H' (W.trans W')⟩
theorem DEB.dex {X:Cx} {E:XK} {e:Expr} {G:DSt→Option Addr} (h:DEB X E e G):DEX X E e G:=.mk fun H0 Hs0=>h.go.weak fun _ _ _=>tXE_B
section
variable {X:Cx} {E:XK} {x q:Str} {st:Stmt} {ps:List Str} {f:Addr} {fd:FuncData} {k n:Nat} {m:List D→Option Addr} {e:Expr} {es:List Expr} {fr:DSt→Option (List R)} {p pos:Pos} {G:DSt→Option Addr}
theorem spX_of {H Hs Hs1 H1:Hp} {rs:List R} {vs:List V} {C:Addr} {Q:VK} (hc:rs.length=n∧bD rs=true) (e:m (rs.map R.view)=some C) (W1:Wd H Hs Hs1 H1) (R1:b9 H Hs1 H1 rs vs) (P:∀ Hs' H',Wd H Hs Hs' H'→E (.ref C) none H'):spX n m vs H1 Q E:=by
 obtain ⟨Hs2,q1,q2,q3,q4⟩:=R1.freeze W1.sub
 have W2:Wd H Hs Hs2 H1:=⟨W1.keep,q2,W1.base.trans q3,fun a o e=>by
  rcases q4 (cX hc.2) a o e with z | z
  ·
   exact W1.new a o z
  ·
   exact .inr z⟩
 exact ⟨Hs2,_,C,by rw [List.length_map];exact hc.1,q2,q1,e,fun Hs3 H3 W3=>P Hs3 H3 (W2.trans W3)⟩
theorem deb_call (hp:bW (CXr X.prog X.w) X E) (d:Df X.K X.mg x q st ps f fd) (F:bO X.prog X.w X.K X.mg X.base (CXr X.prog X.w) k f fd ps (spX n m)) (hr:aQ k X.A) (ha:DA X (e::es) fr)
  (hg:Gl X x:=by rfl) (hdb:(x==("__debug__" : Str))=false:=by decide) (he:starEach (e::es) X.env=(false,eval e X.env)::starEach es X.env:=by rfl) (hpl:(backTo pos (starEach es X.env)).any (·.1)=false:=by rfl) :
  DEB X E (.Call (.Name x p) (e::es) [] pos) (aY n m fr):=.mk <|
 (ia (E:=E) F hr hg d.mgx d.fn.kp d.bd .nil hp ha.go hdb he hpl).weak fun σ H Q ⟨Hs,δ,C,S,En,e,P⟩=>by
  unfold aY at e
  cases ea:fr δ with
  | none=>rw [ea] at e;cases e
  | some rs=>
   rw [ea] at e
   replace e:(if rs.length=n∧bD rs=true then m (rs.map R.view) else none)=some C:=e
   by_cases hc:rs.length=n∧bD rs=true
   ·
    rw [if_pos hc] at e
    refine ⟨Hs,δ,rs,S,En,ea,fun vs Hs1 H1 W1 R1=>?_⟩
    show spX n m (vs++[]) H1 _ E
    rw [List.append_nil]
    exact spX_of hc e W1 R1 P
   ·
    rw [if_neg hc] at e;cases e
end
def eH (g:GD) (fe:FE) (G:DSt→Option Addr) (δ:DSt):List D→Option Addr
 | []=>none
 | d::r=>(g d δ).bind fun δ1=>match G δ1 with
  | some C=>some C
  | none=>(fe δ1).bind fun r1=>if r1.isBw=true then none else eH g fe G δ r
def iK (fi:DSt→Option (List D)) (g:GD) (fe:FE) (G:DSt→Option Addr) (m:Nat) (ix:List Nat):DSt→Option Addr:=fun δ=>(fi δ).bind fun items=>if items.length≤big then eH g fe G (dIn m ix δ) items else none
def tDX (E:XK) (fe:FE) (G:DSt→Option Addr):TE:=fun σ H Q=>tD fe σ H Q∨tXB E G σ H Q
theorem tX_comp {E:XK} {fi:DSt→Option (List D)} {ks:List Nat} {g:GD} {fe:FE} {G:DSt→Option Addr} {m:Nat} {ix:List Nat} (hk:∀ j∈ks,j<m) {σ:St} {H:Hp} {Q:VK} (h:tXB E (iK fi g fe G m ix) σ H Q) :
  je (tI fi) (tG ks g) (tDT cn) (tDX E fe G) m ix σ H Q:=by
 obtain ⟨Hs,δ,C,S,En,e,P⟩:=h
 unfold iK at e
 cases ei:fi δ with
 | none=>rw [ei] at e;cases e
 | some items=>
  rw [ei] at e
  replace e:(if items.length≤big then eH g fe G (dIn m ix δ) items else none)=some C:=e
  by_cases hbig:items.length≤big
  case neg=>rw [if_neg hbig] at e;cases e
  rw [if_pos hbig] at e
  refine ⟨Hs,δ,items,S,En,ei,fun J Hs1 H1 W1 Y A hA=>?_⟩
  have En1:cG Hs1 H1 (dIn m ix δ) (b6 m ix σ):=entIn m ix (En.mono W1)
  have len1:(b6 m ix σ).length=(dIn m ix δ).length:=by unfold b6 dIn;simp
  have hA1:Hs1 A=none:=W1.sub.free hA
  refine ⟨fun i n σ' H'=>n=items.length-i∧i≤items.length∧σ'.length=(dIn m ix δ).length∧(∀ j,m≤j→σ'[j]?=(b6 m ix σ)[j]?)∧
   ∃ Hs' vs,Wd H1 Hs1 Hs' H'∧Hs' A=none∧H' A=some (.lst vs)∧vs.length≤i∧eH g fe G (dIn m ix δ) (items.drop i)=some C,?_,?_⟩
  ·
   exact ⟨items.length,by simp,Nat.zero_le _,len1,fun _ _=>rfl,Hs1,[],⟨.new hA,W1.sub.trans (.new hA),.refl _,fun _ _ e=>.inl e⟩,hA1,aj,Nat.zero_le _,by simpa using e⟩
  ·
   rintro i n σ1 H2 ⟨rfl,hi,hl1,hσ1,Hs2,vs,W2,hA2,hv2,hd2,e2⟩
   by_cases hlt:i<items.length
   case neg=>
    have hi':i=items.length:=by omega
    subst hi'
    rw [List.drop_length] at e2
    cases e2
   have hd:items[i]?=some items[i]:=by simp [hlt]
   obtain ⟨go,yl⟩:=(Y i Hs2 H2 W2.base W2.sub).1 _ hd
   refine .inr ⟨go,fun σ' H'=>i+1≤items.length∧σ'.length=(dIn m ix δ).length∧(∀ j,m≤j→σ'[j]?=(b6 m ix σ)[j]?)∧
    ∃ Hs' vs,Wd H1 Hs1 Hs' H'∧Hs' A=none∧H' A=some (.lst vs)∧vs.length≤i+1∧eH g fe G (dIn m ix δ) (items.drop (i+1))=some C,
    fun σ' H' ⟨a,b,c',d'⟩=>⟨_,by omega,rfl,a,b,c',d'⟩,fun x H3 y=>?_⟩
   obtain ⟨Hs3,W3,rx⟩:=yl x H3 y
   have W13:=W2.trans W3
   have A3:=W3.stay hv2 hA2
   have v3:=W3.keep _ _ hv2
   have En3:cG Hs3 H3 (dIn m ix δ) σ1:=fun j en q=>by
    obtain ⟨v,hv,hr⟩:=(En1.mono W13) j en q
    exact ⟨v,by rw [hσ1 j (jN q)];exact hv,hr⟩
   rw [List.drop_eq_getElem_cons hlt] at e2
   unfold eH at e2
   cases eg:g items[i] (dIn m ix δ) with
   | none=>rw [eg] at e2;cases e2
   | some δ2=>
    rw [eg] at e2
    refine ⟨Hs3,_,items[i],δ2,W3.sub,hl1,rx,eg,fun σ4 sr=>?_⟩
    have hl4:σ4.length=(dIn m ix δ).length:=by rw [sr.lenS];exact hl1
    have hσ4:∀ j,m≤j→σ4[j]?=(b6 m ix σ)[j]?:=fun j hj=>by
     rw [(sr.out j fun z=>Nat.not_lt.mpr hj (hk j z)).2];exact hσ1 j hj
    have En4:cG Hs3 H3 δ2 σ4:=sr.ent En3
    replace e2:(match G δ2 with
     | some C=>some C
     | none=>(fe δ2).bind fun r1=>if r1.isBw=true then none else eH g fe G (dIn m ix δ) (items.drop (i+1)))=some C:=e2
    refine ⟨Hs3,δ2,true,W3.sub,En4,rfl,fun Hs5 H5 W5=>?_⟩
    have W15:=W13.trans W5
    have A5:=W5.stay v3 A3
    have v5:=W5.keep _ _ v3
    simp only [if_true]
    cases eG:G δ2 with
    | some C'=>
     rw [eG] at e2
     cases e2
     exact .inr ⟨Hs5,δ2,C,W5.sub,En4.mono W5,eG,fun Hs6 H6 W6=>P Hs6 H6 (W1.trans (W15.trans W6))⟩
    | none=>
     rw [eG] at e2
     replace e2:((fe δ2).bind fun r1=>if r1.isBw=true then none else eH g fe G (dIn m ix δ) (items.drop (i+1)))=some C:=e2
     cases ef:fe δ2 with
     | none=>rw [ef] at e2;cases e2
     | some r1=>
      rw [ef] at e2
      replace e2:(if r1.isBw=true then none else eH g fe G (dIn m ix δ) (items.drop (i+1)))=some C:=e2
      by_cases hb:r1.isBw=true
      ·
       rw [if_pos hb] at e2;cases e2
      ·
       rw [if_neg hb] at e2
       refine .inl ⟨Hs5,δ2,r1,W5.sub,En4.mono W5,ef,fun v Hs6 H6 W6 R6=>?_⟩
       obtain ⟨Hs7,q7,W7⟩:=R6.share W6 (fun ds z=>hb (by rw [z];rfl))
       have A7:=W7.stay v5 A5
       have v7:=W7.keep _ _ v5
       have W17:=W15.trans W7
       have nA:H1 A=none:=hA
       refine ⟨vs,v7,Nat.lt_of_le_of_lt hd2 (Nat.lt_trans hlt (bF hbig)),hlt,hl4,hσ4,Hs7,vs++[v],⟨fun b o q=>?_,fun b o q=>?_,W17.base,W17.new⟩,A7,aj,by simp;omega,e2⟩
       ·
        rw [ak (az q nA)];exact W17.keep _ _ q
       ·
        rw [ak (az q A7)];exact W17.sub _ _ q
section
variable {X:Cx} {E:XK} {tg elt iter:Expr} {scope:Scope} {pos:Pos} {N:List Str} {m:Nat} {ix:List Nat} {ks:List Nat} {g:GD} {fe:FE} {G:DSt→Option Addr} {fi:DSt→Option (List D)}
theorem dx_comp {y:Str} {py spos:Pos} {iy:Nat} (hX:XR X E) (hst:X.stack=X.env::X.outer) (hfm:X.env.frame=some X.env.locals) (hex:X.ex=[]) (hc:X.calm=true) (S:bA X N m ix scope) (hk:∀ j∈ks,j<m) (hi:DI X tg iter fi)
  (hin:∀ cl C s H fp,DG (bC X E N scope cl C s H fp) tg ks g∧DE (bC X E N scope cl C s H fp) elt fe∧DEB (bC X E N scope cl C s H fp) E elt G)
  (hN:X.N.Nodup) (hiy:X.N[iy]?=some y) (hy:Loc X.env.scope y)
  (hsw:swapsWith (.ListComp elt [⟨tg,iter,[],0⟩] scope pos) (some (.Name y py)) spos.line X.env=pure true:=by rfl)
  (hf:X.fn y=true∨X.env.scope.names.lookup y=some .local:=by first | exact .inl rfl | exact .inr rfl | assumption)
  (hs:∀ x,foldedSetIterable iter X.env x=pure x:=by intro _;rfl):DX X E (.Assign [.Name y py] (.ListComp elt [⟨tg,iter,[],0⟩] scope pos) spos) (iK fi g fe G m ix):=.mk fun H0 Hs0=>
 (ps_compX (te:=tDX E fe G) (tt:=tDT cn) hX hst hfm hex hc S hi.go (fun cl C s H fp=>⟨(hin cl C s H fp).1.go,bJ.go,fun pins s' σ H' Q I h=>h.elim ((hin cl C s H fp).2.1.go pins s' σ H' Q I) ((hin cl C s H fp).2.2.go pins s' σ H' Q I)⟩) hN hiy hy hsw hf hs).weak fun D σ H h=>by
  obtain ⟨Hs,δ,C,W,S,e,P⟩:=h
  exact tX_comp hk ⟨Hs,δ,C,W.sub,S.ent,e,fun Hs' H' W'=>P Hs' H' (W.trans W')⟩
end
end Ew
end
section
namespace Ew
open PySem PySem.Spec L2
structure kD (h h':Heap) (e:Addr) (cls:Value) (ex:Addr):Prop where
 keeps:∀ b o,h.get? b=some o→h'.get? b=some o
 new:h.get? e=none
 there:∃ t,h'.get? e=some { cls:=cls,data:=.fields #[.ref t,.none,.ref ex,.none,.bool true,.none] }
section
variable {prog:Program} {w:World} {A:Around} {E:Value→Shared→Prop} {s:Shared} {env:Env}
variable {nm q:Str} {C N:Addr} {bs bm bmB:List Value} {hdct:Bool} {sn:List Str} {sub:List Value} {ab:Bool} {col:Option Bool} {dd:Option Addr} {k0 k1 k2 k3 k5:Option Value} {B newId initId:String}
theorem iL {x c:Sem Value} {ex:Addr} {Q:Flow→Shared→Prop} (hbase:bm.contains (.type "BaseException")=true) (hh:A.handled=some (.ref ex)) (hc:∀ (Q:Value→Shared→Prop) s,Q .none s→wpAny (model prog w) A c Q E s)
  (h:wpAny (model prog w) A x (fun v s₁=>∃ e t h0,v=.ref e∧s₁.heap.get? C=some (excClassObj nm q C N bs bm hdct sn sub ab col dd k0 k1 k2 k3 k5 newId)∧
   s₁.heap.get? e=some { cls:=.ref C,data:=.fields #[.ref t,.none,.none,.none,.bool false,.none] }∧(∀ b o,Heap.get? h0 b=some o→s₁.heap.get? b=some o)∧h0.get? e=none∧(∃ ox v,h0.get? ex=some ox∧ox.data=.fields v∧v[2]?=some .none)∧
   ∀ h',kD h0 h' e (.ref C) ex→E (.ref e) { s₁ with heap:=h' }) E s) :
  wpAny (model prog w) A (raiseStmt env (some x) (some c)) Q E s:=by
 have hcB:(Value.ref C::bm).contains (.type "BaseException")=true:=by rw [List.contains_cons,hbase,Bool.or_true]
 unfold raiseStmt
 refine wpAny_bind (wpAny_mono h (fun v s₁ h₁=>?_) fun _ _ x=>x)
 obtain ⟨e,t,h0,rfl,hC,he,k0',hen,⟨ox,v,hx,hd,h2⟩,hE⟩:=h₁
 obtain ⟨hp,g,d,tk,os⟩:=s₁
 have nex:ex≠e:=fun z=>by rw [z,hen] at hx;cases hx
 have nC:C≠e:=fun z=>by
  dsimp only at hC he
  rw [z,he] at hC
  cases hC
 refine wpAny_bind (wpAny_holding (hc _ _ ?_))
 refine wpAny_bind (wpAny_pure ?_)
 repeat (first | with_reducible refine wpAny_loadPart_at he ?_ | with_reducible refine wpAny_loadPart_at hC ?_ | (with_reducible refine wpAny_isSubtype_exc hC ?_;rw [hcB]) | wp_step)
 have g1:((hp.update e (Obj.mapFields fun x=>x.setIfInBounds 3 Value.none)).update e (Obj.mapFields fun x=>x.setIfInBounds 4 (Value.bool true))).get? e=some { cls:=.ref C,data:=.fields #[.ref t,.none,.none,.none,.bool true,.none] }:=by
  rw [Heap.get?_update_self _ (Heap.get?_update_self _ he rfl) rfl];rfl
 have g2:∀ b,b≠e→((hp.update e (Obj.mapFields fun x=>x.setIfInBounds 3 Value.none)).update e (Obj.mapFields fun x=>x.setIfInBounds 4 (Value.bool true))).get? b=hp.get? b:=fun b hb=>by
  rw [Heap.get?_update_other _ _ (Ne.symm hb),Heap.get?_update_other _ _ (Ne.symm hb)]
 generalize (hp.update e (Obj.mapFields fun x=>x.setIfInBounds 3 Value.none)).update e (Obj.mapFields fun x=>x.setIfInBounds 4 (Value.bool true))=h1 at g1 g2 ⊢
 unfold raiseNew
 refine wpAny_bind (wpAny_handled ?_)
 rw [hh]
 dsimp only
 rw [if_pos (by simpa using nex)]
 refine wpAny_bind (wpAny_holding (wpAny_runValue (iG (P:=[]) ((g2 ex nex).trans (k0' ex ox hx)) hd (.inl h2) (by simp) ?_)))
 refine wpAny_bind (show wpAny _ _ (setField (.ref e) 2 (.ref ex)) _ _ _ from wpAny_setField g1 rfl (show 2<6 by decide) (wpAny_throw (hE _ ⟨fun b o hb=>?_,hen,t,?_⟩)))
 ·
  have nb:b≠e:=fun z=>by rw [z,hen] at hb;cases hb
  rw [Heap.get?_update_other _ _ (Ne.symm nb),g2 b nb]
  exact k0' b o hb
 ·
  rw [Heap.get?_update_self _ g1 rfl];rfl
theorem ll (F:ExcBaseFacts B newId initId bmB) {mN:Str→Option Value} {x:Str} {np cpos pos kp:Pos} {j:Nat} {ex:Addr} {args:List Expr} {Q:Flow→Shared→Prop}
  (hbase:bm.contains (.type "BaseException")=true) (hh:A.handled=some (.ref ex)) (hplain:(backTo cpos (starEach args env)).any (·.1)=false) (hni:mN "__init__" = none)
  (h:wpAny (model prog w) A (eval (.Name x np) env) (fun f s₁=>f=.ref C∧wpAny (model prog w) A (evalArgs (.ref C) true (backTo cpos (starEach args env)) [])
   (fun a s₂=>a.kw=[]∧a.pos.length≤sizeLine∧s₂.heap.get? C=some (excClassObj nm q C N bs bm hdct sn sub ab col dd k0 k1 k2 k3 k5 newId)∧s₂.heap.Ns N mN∧OwnTail s₂.heap bmB bm∧(∃ ox v,s₂.heap.get? ex=some ox∧ox.data=.fields v∧v[2]?=some .none)∧
    ∀ h' e,kD s₂.heap h' e (.ref C) ex→E (.ref e) { s₂ with heap:=h' }) E s₁) E s) :
  wpAny (model prog w) A (exec (.Raise (some (.Call (.Name x np) args [] cpos)) (some (.Constant .none j kp)) pos) env) Q E s:=by
 rw [arm_exec_Raise]
 refine wpAny_bind (wpAny_standAt ?_)
 show wpAny _ _ (raiseStmt env (some (do let v ←eval (.Call (.Name x np) args [] cpos) env;standAt pos;pure v)) (some (do let v ←eval (.Constant .none j kp) env;standAt pos;pure v))) _ _ _
 refine iL (C:=C) (nm:=nm) (q:=q) (N:=N) (bs:=bs) (bm:=bm) (hdct:=hdct) (sn:=sn) (sub:=sub) (ab:=ab) (col:=col) (dd:=dd) (k0:=k0) (k1:=k1) (k2:=k2) (k3:=k3) (k5:=k5) (newId:=newId) hbase hh (fun Q s hq=>?_)
  (wpAny_bind (wpAny_mono (wpAny_Call_ofName (wpAny_mono h (fun f s₁ h₁=>?_) fun _ _ x=>x)) (fun v s₃ h₃=>wpAny_bind (wpAny_standAt (wpAny_pure h₃))) fun _ _ x=>x))
 ·
  refine wpAny_bind (wpAny_mono (Q:=fun v s'=>v=.none∧s'=s) ?_ (fun v s' hv=>?_) fun _ _ z=>z)
  ·
   exact (show wpAny _ _ (pure Value.none) _ _ _ from wpAny_pure ⟨rfl,rfl⟩)
  ·
   obtain ⟨rfl,rfl⟩:=hv
   exact wpAny_bind (wpAny_standAt (wpAny_pure hq))
 obtain ⟨rfl,h₁⟩:=h₁
 unfold callWith
 refine wpAny_bind (wpAny_holding (wpAny_mono h₁ (fun a s₂ h₂=>wpAny_bind (wpAny_standAt ?_)) fun _ _ x=>x))
 obtain ⟨apos,akw⟩:=a
 obtain ⟨hkw,hlen,hC,hn,T,hex,h₂⟩:=h₂
 obtain rfl:akw=[]:=hkw
 obtain ⟨hp,g,d,tk,os⟩:=s₂
 simp only [hplain]
 refine wpAny_bind (wpAny_keeperOf_exc hC ?_)
 refine wpAny_bind (wpAny_call_exc_subT (hrest:=hlen) F T hC hn hni fun h' e hm=>wpAny_bind (wpAny_holding (wpAny_point (wpAny_pure ?_))))
 obtain ⟨t,ht,_,_⟩:=hm.there
 exact ⟨e,t,hp,rfl,hm.keeps _ _ hC,ht,hm.keeps,hm.new,hex,fun h'' mf=>h₂ h'' e mf⟩
end
def spIX (n:Nat) (m:List D→Option Addr):Sp:=fun vs H _ E=>∃ Hs v us ds C,vs=v::us∧ds.length=n∧aB Hs H∧av Hs ds us∧m ds=some C∧∀ Hs' H',Wd H Hs Hs' H'→E (.ref C) none H'
def runIX (k:Nat) (G:DSt→Option Addr) (ds:List D):Option Addr:=G (none::(ds.map (fun d=>some (.sh d))++List.replicate (k-(ds.length+1)) none))
theorem st_startX {Hs H:Hp} {N:List Str} {ds:List D} {v:V} {us:List V} (r:av Hs ds us) (hN:ds.length+1≤N.length):StR H Hs H (none::(ds.map (fun d=>some (E.sh d))++List.replicate (N.length-(ds.length+1)) none)) (L2.start N (v::us)):=by
 have get:∀ (i:Nat) (en:E),(none::(ds.map (fun d=>some (E.sh d))++List.replicate (N.length-(ds.length+1)) none))[i]?=some (some en)→∃ k d,i=k+1∧ds[k]?=some d∧en=E.sh d:=fun i en h=>by
  cases i with
  | zero=>cases h
  | succ i=>
   rw [List.getElem?_cons_succ] at h
   by_cases hi:i<ds.length
   ·
    rw [List.getElem?_append_left (by simpa using hi),List.getElem?_map] at h
    cases q:ds[i]? with
    | none=>rw [q] at h;cases h
    | some d=>rw [q] at h;cases h;exact ⟨i,d,rfl,q,rfl⟩
   ·
    rw [List.getElem?_append_right (by simpa using hi),List.getElem?_replicate] at h
    split at h <;> cases h
 refine ⟨fun i en h=>?_,?_,fun i e v b h _ f=>?_,fun i j e e' v v' b _ h _ _ _ f=>?_⟩
 ·
  obtain ⟨k,d,rfl,hd,rfl⟩:=get i en h
  obtain ⟨v,hv,rv⟩:=r.get hd
  refine ⟨v,?_,rv⟩
  unfold L2.start
  have hi:k<us.length:=(List.getElem?_eq_some_iff.mp hv).1
  rw [List.map_cons,List.cons_append,List.getElem?_cons_succ,List.getElem?_append_left (by simpa using hi),List.getElem?_map,hv]
  rfl
 ·
  unfold L2.start
  simp [r.length]
 ·
  obtain ⟨_,_,_,_,z⟩:=get i _ h;rw [z] at f;cases f
 ·
  obtain ⟨_,_,_,_,z⟩:=get i _ h;rw [z] at f;cases f
section
variable {P:Program} {w:World} {K:Frag} {mg:Str→Option Value} {base:Heap}
theorem fn_IX {x qual:Str} {st:Stmt} {f:Addr} {fd:FuncData} {N ps:List Str} {k n:Nat} {G:DSt→Option Addr} (hn:ps.length=n+1) (F0:Fun K x qual st f fd) (S:bU N ps (defScope st))
  (h:∀ (cdv:Value) (A:Around) (outer:List Env) (s:Shared) (H:Hp) (E:XK),aQ k (A.deeper (envOfC qual (defScope st) s.heap.objs.size f cdv))→DXs (dP (CXr P w) P w K mg base N qual (defScope st) f cdv A outer s H E) E (defBody st) G) :
  bO P w K mg base (CXr P w) (k+1) f fd ps (spIX n (runIX N.length G)):=by
 obtain ⟨oc,od,kV,doc,pm,an,cdv,ct,osl,rfl,lk,hcd⟩:=F0.ex
 refine fn_of lk hcd S (fun vs H Q E hs=>?_) fun A outer s H vs Q E hr hs=>?_
 ·
  obtain ⟨Hs,v,us,ds,C,rfl,hl,sub,r,em,post⟩:=hs
  rw [List.length_cons,r.length,hl,hn]
 ·
  obtain ⟨Hs,v,us,ds,C,rfl,hl,sub,r,em,post⟩:=hs
  have hN:ds.length+1≤N.length:=by
   have:=congrArg List.length S.pre
   rw [List.length_take,hn] at this
   omega
  exact ⟨_,(h cdv A outer s H E hr).go H Hs,Hs,_,C,.refl sub,st_startX r hN,em,post⟩
end
section
variable {X:Cx} {E:XK} {x:Str} {C f:Addr} {fd:FuncData} {ps:List Str} {k n:Nat} {m:List D→Option Addr} {e:Expr} {es:List Expr} {fr:DSt→Option (List R)} {p pos:Pos}
theorem deb_make (hp:bW (CXr X.prog X.w) X E) (M:Mk X.K C f) (F:bO X.prog X.w X.K X.mg X.base (CXr X.prog X.w) k f fd ps (spIX n m)) (hb:Binds X.K fd ps []) (hm:X.mg x=some (.ref C)) (hr:aQ (k+1) X.A) (ha:DA X (e::es) fr)
  (hg:Gl X x:=by rfl) (hdb:(x==("__debug__" : Str))=false:=by decide) (he:starEach (e::es) X.env=(false,eval e X.env)::starEach es X.env:=by exact aE rfl) (hpl:(backTo pos (starEach es X.env)).any (·.1)=false:=by rfl) :
  DEB X E (.Call (.Name x p) (e::es) [] pos) (aY n m fr):=.mk <| (pe_make (E:=E) M F hr hg hm hb .nil hp ha.go hdb he hpl).weak fun σ H Q ⟨Hs,δ,C',S,En,e,P⟩=>by
 unfold aY at e
 cases ea:fr δ with
 | none=>rw [ea] at e;cases e
 | some rs=>
  rw [ea] at e
  replace e:(if rs.length=n∧bD rs=true then m (rs.map R.view) else none)=some C':=e
  by_cases hc:rs.length=n∧bD rs=true
  ·
   rw [if_pos hc] at e
   refine ⟨Hs,δ,rs,S,En,ea,fun vs Hs1 H1 W1 R1 x dx nx nd ne=>?_⟩
   show spIX n m (.ref x::(vs++[])) _ _ E
   rw [List.append_nil]
   obtain ⟨Hs2,q1,q2,q3,q4⟩:=R1.freeze W1.sub
   have W2:Wd H Hs Hs2 H1:=⟨W1.keep,q2,W1.base.trans q3,fun a o e=>by
    rcases q4 (cX hc.2) a o e with z | z
    ·
     exact W1.new a o z
    ·
     exact .inr z⟩
   have np':(L2.upd H1 dx (.own x)) x=none:=by rw [ak (Ne.symm ne)];exact nx
   have W3:Wd H1 Hs2 Hs2 (L2.upd (L2.upd H1 dx (.own x)) x (.ins C dx [])):=(Wd.fresh q2 nd).trans (.fresh (q2.trans (.new nd)) np')
   exact ⟨Hs2,_,vs,_,C',rfl,by rw [List.length_map];exact hc.1,W3.sub,q1,e,fun Hs4 H4 W4=>P Hs4 H4 (W2.trans (W3.trans W4))⟩
  ·
   rw [if_neg hc] at e;cases e
end
theorem inv_drop {X:Cx} {pins:List (Addr×Obj)} {σ:St} {H:Hp} {s:Shared} {e:Addr} {o:Obj} (nH:H e=none) (h0:∀ o u,X.H₀ e≠some (.frz o u)) (I:Inv X pins σ (upd H e (.frz o (.own 0))) s):Inv X pins σ H s:=by
 have dn:∀ b,upd H e (.frz o (.own 0)) b=none→H b=none:=fun b q=>by
  by_cases hb:b=e
  ·
   rw [hb];exact nH
  ·
   rwa [ak hb] at q
 have ds:∀ b u,upd H e (.frz o (.own 0)) b=some u→b≠e→H b=some u:=fun b u q hb=>by rwa [ak hb] at q
 refine ⟨I.ok,I.os,I.bare,⟨I.base.keep,I.base.slot,fun b u q n hx=>dn b (I.base.free b u q n hx),I.base.there,fun b xs q=>?_,fun b u v q=>?_,fun b ps q=>?_⟩,I.loc,I.cell,dn _ I.free,fun x c q=>dn c (I.freeC x c q),fun p hp=>?_,fun b u q=>?_,I.len⟩
 ·
  have z:=I.base.tups b xs q
  exact ds b _ z fun hb=>by rw [hb,aj] at z;cases z
 ·
  have z:=I.base.frzs b u v q
  exact ds b _ z fun hb=>h0 u v (hb▸q)
 ·
  obtain ⟨m,z⟩:=I.base.tbls b ps q
  exact ⟨m,ds b _ z fun hb=>by rw [hb,aj] at z;cases z⟩
 ·
  obtain ⟨a,b,c⟩:=I.pin p hp
  exact ⟨a,dn _ b,c⟩
 ·
  have hb:b≠e:=fun hb=>by rw [hb,nH] at q;cases q
  have z:=I.hok b u (by rw [ak hb];exact q)
  exact z.stay (fun c v _ z=>z) (fun c z=>ds c _ z fun hb=>by rw [hb,aj] at z;cases z) fun c xs z=>ds c _ z fun hb=>by rw [hb,aj] at z;cases z
def ztry (X:Cx) (E':XK):Value→Shared→Prop:=fun e s'=>∃ pins σ H s,Inv X pins σ H s∧CXr X.prog X.w X.stack H s E' e s'
abbrev Cx.tr (X:Cx) (E':XK):Cx:=X.wish (ztry X E')
theorem ztry_pass {X:Cx} {E':XK}:bW (CXr X.prog X.w) (Cx.tr X E') E':=fun pins σ H s e s' I h=>⟨pins,σ,H,s,I.unwish,h⟩
def xtry (ok:Addr→Option Bool) (Cz:Addr) (Ge:DSt→Option Addr):DSt→Option Addr:=fun δ=>(Ge δ).bind fun C=>if ok C=some true then some Cz else none
section
variable {X:Cx} {E:XK} {e:Expr} {Ge:DSt→Option Addr} {y z t:Str} {Y Cz:Addr} {ok:Addr→Option Bool} {j j2:Nat} {rpos np np2 cp cpos kp pos2 hpos pos:Pos} {B newId initId:String} {bm:List Value}
theorem ds_tryR {F:FS} {h0:ExceptHandler} (h:DS X.nox (.Return (some e) rpos) F):DS X (.Try [.Return (some e) rpos] [h0] [] [] pos) F:=.mk fun H0 Hs0=>fun pins s σ H D I q=>by
 refine wpAny_Try_except (wpAny_execs_cons (wpAny_mono ((h.go H0 Hs0) pins s σ H D (I.wish _) q) (fun fl s1 z=>?_) fun _ _ z=>z.elim))
 cases fl with
 | next=>
  obtain ⟨σ',H',I',q'⟩:=z
  exact wpAny_pure (wpAny_pure ⟨σ',H',I'.unwish,q'⟩)
 | brk=>obtain ⟨σ',H',I',q'⟩:=z;exact ⟨σ',H',I'.unwish,q'⟩
 | cont=>obtain ⟨σ',H',I',q'⟩:=z;exact ⟨σ',H',I'.unwish,q'⟩
 | ret u=>obtain ⟨v,σ',H',I',r,q'⟩:=z;exact ⟨v,σ',H',I'.unwish,r,q'⟩
theorem dx_try (hX:XR X (al E)) (he:∀ E',DEB (Cx.tr X E') E' e Ge) (hY:X.mg y=some (.ref Y)) (hok:∀ C,ok C=some true→exmOne X.K (.ref C) (.ref Y)=some true)
  (hz:X.mg z=some (.ref Cz)) (hO:excIn X.K Cz bm newId=true) (FB:ExcBaseFacts B newId initId bm)
  (hst:X.stack=X.env::X.outer:=by rfl) (hfm:X.env.frame=some X.env.locals:=by rfl) (hex:X.ex=[]:=by rfl)
  (hgy:Gl X y:=by rfl) (hdy:(y==("__debug__" : Str))=false:=by decide) (hgz:Gl X z:=by rfl) (hdz:(z==("__debug__" : Str))=false:=by decide) :
  DX X (al E) (.Try [.Return (some e) rpos] [.ExceptHandler (some (.Name y np)) none [.Raise (some (.Call (.Name z np2) [.Constant (.str t) j cp] [] cpos)) (some (.Constant .none j2 kp)) pos2] hpos] [] [] pos) (xtry ok Cz Ge):=.mk fun H0 Hs0=>fun pins s σ H D I ⟨Hs,δ,C,W,S,eG,P⟩=>by
 unfold xtry at eG
 cases eg:Ge δ with
 | none=>rw [eg] at eG;cases eG
 | some C0=>
  rw [eg] at eG
  simp only [Option.bind_some] at eG
  by_cases hC:ok C0=some true
  case neg=>rw [if_neg hC] at eG;cases eG
  rw [if_pos hC] at eG
  cases eG
  refine wpAny_Try_except (wpAny_execs_cons (wpAny_mono ((jx (he (fun v f H'=>v=.ref C0∧f=none∧∃ Hs',Wd H0 Hs0 Hs' H')).go) pins s σ H { nx:=fun _ _=>False,rt:=fun _ _=>False } (I.wish _) ⟨Hs,δ,C0,W.sub,S.ent,eg,fun Hs' H' W'=>⟨rfl,rfl,Hs',W.trans W'⟩⟩) (fun fl s1 z=>?_) (fun ev s' hz'=>?_)))
  ·
   cases fl with
   | next=>obtain ⟨_,_,_,q⟩:=z;exact q.elim
   | ret v=>obtain ⟨_,_,_,_,_,q⟩:=z;exact q.elim
   | brk=>obtain ⟨_,_,_,q⟩:=z;exact q.elim
   | cont=>obtain ⟨_,_,_,q⟩:=z;exact q.elim
  obtain ⟨pins1,σ1,H1,s1,I1,ex,C',H',hbh,rfl,⟨os,bare,un,hokk,B0,fl,old,tr,nbh⟩,eC,rfl,Hs',W'⟩:=hz'
  cases eC
  have hfr:X.A.frames=some (X.env::X.outer):=by rw [I1.ok.frames,hst]
  have fl':cV B0 none (X.env::X.outer) ex (.ref C0) .none s'.heap:=by rw [←hst];exact fl
  have nfr:∀ b∈frs X.stack,∀ o,s'.heap.get? b=some o→∀ vs,o.data≠.fields vs:=fun b hb o qo=>by
   obtain ⟨_,o',ho',hd⟩:=fl.2.2.1.mem hb
   rw [qo] at ho';cases ho'
   exact hd
  have new1:s1.heap.get? ex=none:=by
   cases z:s1.heap.get? ex with
   | none=>rfl
   | some o=>
    obtain ⟨ob,vs',h1,_,_,h3⟩:=fl.ex
    have nf:ex∉frs X.stack:=fun hm=>nfr ex hm ob h1 vs' h3
    obtain ⟨_,z'⟩:=old ex o z nf (by simp)
    rw [fl.2.1] at z';cases z'
  have nH:H' ex=none:=by
   cases z:H' ex with
   | none=>rfl
   | some u=>
    obtain ⟨_,z'⟩:=tr ex u z
    rw [fl.2.1] at z';cases z'
  have land:∀ h6 o6,cV B0 none X.stack ex (.ref C0) .none h6→s'.heap.UpToSlots h6→h6.get? ex=some o6→Inv X pins1 σ1 (upd H' ex (.frz o6 (.own 0))) { s' with heap:=h6 }:=fun h6 o6 f6 up g6=>by
   have un6:=un.slots fl.1 f6.1 up (fun b o q n=>old b o q n (by simp)) nfr
   have hok6:=hokk.slots fl.1 f6.1 tr
   refine I1.call' os (ch:=[]) ⟨un6.keep,un6.slot,fun b o qo nb hx=>?_,un6.there,fun b xs qo=>?_,fun b o u qo=>?_,fun b ps qo=>?_⟩ (fun b u qo=>?_) bare (by simp)
   ·
    have:b≠ex:=fun z=>by rw [z,new1] at qo;cases qo
    rw [ak this];exact un6.free b o qo nb hx
   ·
    have:=un6.tups b xs qo
    rw [ak (az this nH)];exact this
   ·
    have:=un6.frzs b o u qo
    rw [ak (az this nH)];exact this
   ·
    obtain ⟨more,this⟩:=un6.tbls b ps qo
    exact ⟨more,by rw [ak (az this nH)];exact this⟩
   ·
    by_cases hb:b=ex
    ·
     subst hb
     rw [aj] at qo;cases qo
     exact ⟨g6,_,g6⟩
    ·
     rw [ak hb] at qo
     exact (hok6 b u qo).stay (fun c v _ z=>z) (fun c z=>by rw [ak (az z nH)];exact z) fun c xs z=>by rw [ak (az z nH)];exact z
  have e0:X.s₀.heap.get? ex=none:=by
   cases z:X.s₀.heap.get? ex with
   | none=>rfl
   | some o=>
    obtain ⟨_,z'⟩:=I1.base.there ex o z (by rw [hex];simp)
    rw [new1] at z';cases z'
  refine note2 hfr hfm fl' fun h4 held4 up4=>?_
  refine jk held4 fun h5 fl5 up5=>?_
  obtain ⟨o5,_,g1,g2,_⟩:=fl5.ex
  have I5:=gu (P:=[]) (land h5 o5 (by rw [hst];exact fl5) (up4.trans up5) g1) e0 aj (by simp)
  refine wpAny_handleBy_cons (codeAny_handlers_test (cK I5 hgy hY ?_ hdy)) (by intro z;cases z)
  have LT:Looks (model X.prog X.w) h5 (typeOf (.ref ex)) (.ref C0):=g2▸(PySem.W.Looks.ld g1).andThen .now
  refine (exm_one (K:=X.K) (h:=h5) I5.kIn LT (hok C0 hC)).at ?_
  refine codeAny_handlers_suite ?_
  refine jk fl5 fun h6 fl6 up6=>?_
  obtain ⟨o6,v6,k1,k2,k3,k4⟩:=fl6.ex
  have h62:v6[2]?=some .none:=by
   rcases k3 with z | ⟨_,_,_,z,_⟩
   ·
    exact z
   ·
    cases z
  have J6:=land h6 o6 (by rw [hst];exact fl6) ((up4.trans up5).trans up6) k1
  have I6:=gu (P:=[]) J6 e0 aj (by simp)
  have W6:Wd H0 Hs0 (upd Hs' ex (.frz o6 (.own 0))) (upd H' ex (.frz o6 (.own 0))):=W'.trans (.lay W'.sub nH)
  refine wpAny_execs_cons ?_
  obtain ⟨tl,Nn,nm,q,bs,hdct,sn,sub,ab,col,dd,k0,k1',k2',k3',k5,mN,hCz,hN,hni,T⟩:=jm I.mod.kin hO
  refine @ll X.prog X.w (X.A.mark (some (.ref ex))) _ _ X.env nm q Cz Nn bs tl bm hdct sn sub ab col dd k0 k1' k2' k3' k5 B newId initId FB mN z np2 cpos pos2 kp j2 ex [.Constant (.str t) j cp] _ (T.hasType FB.hasBase) rfl rfl hni (cK I6 hgz hz ⟨rfl,?_⟩ hdz)
  refine Calls.evalArgs_plain ?_
  have pa:PA ((eV X ex o6 []).wish (notedBy (model X.prog X.w) (X.A.mark (some (.ref ex))) X.env fun x s₂=>cameBackBy (model X.prog X.w) X.A X.env X.xe x s₂)) [.Constant (.str t) j cp] (tCons (tC (.str t)) tNil):=a5 iq cr
  refine thn (pa cpos pins1 _ σ1 _ (fun vs H1=>vs=[.str t]∧H1=upd H' ex (.frz o6 (.own 0))) (I6.wish _) ⟨rfl,rfl⟩) fun us s7 ⟨vs,H7,I7',r,e1,e2⟩=>?_
  subst e1;subst e2
  have I7:=I7'.unwish
  have hl:=r.length
  have J7:=iH J6 e0 aj I7
  obtain ⟨gx,_⟩:=(show bE X.prog X.w _ s7.heap ex (.frz o6 (.own 0)) from I7.hok ex _ aj)
  refine ⟨rfl,by rw [←hl];show (1:Nat)≤sizeLine;decide,I7.bk _ _ hCz,hN.keeps I7.bk,T.keeps I7.bk,⟨o6,v6,gx,k4,h62⟩,fun h' e mf=>?_⟩
  have K7:=inv_drop nH (fun o u z=>by
   obtain ⟨o',z'⟩:=I1.hok.there (I1.base.frzs ex o u z)
   rw [new1] at z';cases z') J7
  obtain ⟨BB,hB,FF,gB⟩:=hid K7
  have nex:ex∉frs X.stack:=fun hm=>by
   obtain ⟨_,o',ho',hd⟩:=K7.stack.mem hm
   rw [gx] at ho';cases ho'
   exact hd _ k4
  obtain ⟨tt,ge⟩:=mf.there
  have hen:BB.get? e=none:=by
   cases z:BB.get? e with
   | none=>rfl
   | some o=>have:=hB e o z;rw [mf.new] at this;cases this
  show wpAny _ (X.A.mark (some (.ref ex))) (noteFrame (.ref e) X.env) _ _ _
  unfold noteFrame
  simp only [hfm]
  refine wpAny_bind (wpAny_field ge rfl (x:=.none) rfl ?_)
  rw [if_neg (by decide)]
  refine entry2 (hb:=some ex) (base:=BB) (A:=X.A.mark (some (.ref ex))) (outer:=X.outer) hfr (by rw [←hst];exact FF.of_keeps fun b o hb _=>⟨o,mf.keeps b o hb,rfl⟩) hfm ge (fun b o q=>mf.keeps b o (hB b o q)) hen rfl (.inr ⟨ex,o6,v6,rfl,rfl,gB ex o6 gx nex,k4,h62⟩) fun h1 f1 u1=>?_
  have f1':=f1
  obtain ⟨a1,a2,a3,oe,ws,TT,oT,ts,c0,c1,c2,c3,c4,c5⟩:=f1'
  show wpAny _ X.A (field (.ref e) 1 >>= _) _ _ _
  refine wpAny_bind (wpAny_field c0 c3 c4 ?_)
  rw [if_neg (by simp)]
  refine landF f1 fun h2 f2 u2=>?_
  refine hX.held pins1 σ1 H' s7 e Cz H' (some ex) _ [] _ K7 ⟨rfl,K7.bare,(Un.kept mf.keeps).slots (fun b o q=>mf.keeps b o (hB b o q)) f2.1 (u1.trans u2) (fun b o q n=>⟨o,gB b o q n⟩) (fun b hb o q=>?_),(K7.hok.kept mf.keeps).slots (fun b o q=>mf.keeps b o (hB b o q)) f2.1 (fun b u q=>?_),BB,by rw [hst];exact f2,(fun b o q n _=>⟨o,gB b o q n⟩),(fun b u q=>?_),(fun b q=>by cases q;exact nH)⟩ (by simp) (P _ _ W')
  ·
   obtain ⟨_,o',ho',hd⟩:=K7.stack.mem hb
   rw [mf.keeps b o' ho'] at q;cases q
   exact hd
  ·
   obtain ⟨o1,z1⟩:=K7.hok.there q
   exact ⟨o1,gB b o1 z1 fun hm=>by have:=K7.stkFree b hm;rw [q] at this;cases this⟩
  ·
   obtain ⟨o1,z1⟩:=K7.hok.there q
   exact ⟨o1,gB b o1 z1 fun hm=>by have:=K7.stkFree b hm;rw [q] at this;cases this⟩
end
theorem lm:typeLookup (.type "str") "__int__" = pure none:=by rw [typeLookup_type,builtinLookup_eq_fast];kernel_rfl
theorem jV:typeLookup (.type "str") "__index__" = pure none:=by rw [typeLookup_type,builtinLookup_eq_fast];kernel_rfl
theorem jW:typeLookup (.type "str") "__trunc__" = pure none:=by rw [typeLookup_type,builtinLookup_eq_fast];kernel_rfl
set_option maxHeartbeats 0 in
theorem kE (c:Nat) (hc:48≤c∧c<58) (u:Tok):Gives (Builtin.«int.__new__» ⟨[.type "int",.str ⟨#[c]⟩ u],[]⟩) (.int ((c-48:Nat):Int)):=by
 exact .of_wp fun M A E s Q h=>by
  obtain ⟨hp,g,d,tk,os⟩:=s
  have f1:=PySem.F.conv_sub_int
  have f2:=PySem.F.madeHere_int
  have f3:=lm
  have f4:=jV
  have f5:=jW
  repeat (any_goals (first | assumption | wp_step))
  have h10:c=48∨c=49∨c=50∨c=51∨c=52∨c=53∨c=54∨c=55∨c=56∨c=57:=by omega
  rcases h10 with rfl | rfl | rfl | rfl | rfl | rfl | rfl | rfl | rfl | rfl <;> (intro Γ p hΓ;with_unfolding_all exact fun _ _ _=>⟨_,rfl,h⟩)
def bT:D→Option R
 | .str ⟨⟨[c]⟩⟩=>if 48≤c∧c<58 then some (.sh (.int ((c-48:Nat):Int))) else none
 | _=>none
section
variable {X:Cx}
theorem gP:bN X (.type "int") (rC1 bT):=by
 intro pins s σ H xs us Q I rv h
 obtain ⟨x,rfl,Hs,d,r,S,vd,e,K⟩:=h
 match d,e,vd with
 | .str ⟨⟨[c]⟩⟩,e,vd=>
  replace e:(if 48≤c∧c<58 then some (R.sh (.int ((c-48:Nat):Int))) else none)=some r:=e
  by_cases hz:48≤c∧c<58
  ·
   rw [if_pos hz] at e;cases e
   have hx:=vd.str
   subst hx
   obtain ⟨u,rfl,t,rfl⟩:=rv.one
   exact call_int_1 (kE c hz t).meets (show (Made.int ((c-48:Nat):Int)).post _ s from ⟨rfl,.int _,H,I.tok _,⟨_,rfl⟩,K _ Hs H (.refl S) (shI _ _ _ _)⟩)
  ·
   rw [if_neg hz] at e;cases e
end
end Ew
end
section
namespace Ew
open PySem PySem.Spec L2 PySem.W
def xfrz (i:Nat) (G:DSt→Option Addr):DSt→Option Addr:=fun δ=>G (frz i δ)
theorem dx_frz {X:Cx} {E:XK} {st:Stmt} {G:DSt→Option Addr} {i:Nat} (h:DX X E st G):DX X E st (xfrz i G):=.mk fun H0 Hs0=>(h.go H0 Hs0).weak fun D σ H ⟨Hs,δ,C,W,S,e,P⟩=>by
 obtain ⟨Hs1,W1,S1⟩:=S.frz (i:=i) W
 exact ⟨Hs1,_,C,W1,S1,e,P⟩
theorem dx_or {X:Cx} {E:XK} {st:Stmt} {G1 G2:DSt→Option Addr} (h1:DX X E st G1) (h2:DX X E st G2):DX X E st (xor G1 G2):=.mk fun H0 Hs0=>fun pins s σ H D I ⟨Hs,δ,C,W,S,e,P⟩=>by
 unfold xor at e
 cases e1:G1 δ with
 | some C1=>
  rw [e1] at e;cases e
  exact (h1.go H0 Hs0) pins s σ H D I ⟨Hs,δ,_,W,S,e1,P⟩
 | none=>
  rw [e1] at e
  exact (h2.go H0 Hs0) pins s σ H D I ⟨Hs,δ,_,W,S,e,P⟩
section
variable {X:Cx} {E:XK} {x n y z:Str} {st:Stmt} {ps:List Str} {k j m i:Nat} {mx:List D→Option Addr} {md:List D→Option D} {e:Expr} {es:List Expr} {fr:DSt→Option (List R)} {p pos pos':Pos} {G:DSt→Option Addr}
theorem du0 {F:Fd X.K X.mg x st ps} (G:Ok X.prog X.w X.mg X.base k F.toFb (spD 0 md)) (hr:aQ j X.A) (hk:k≤j:=by decide)
  (hg:Gl X x:=by rfl) (hdb:(x==("__debug__" : Str))=false:=by decide):DE X (.Call (.Name x p) [] [] pos) (aq 0 md ah):=.mk <|
 (pe_call0 (E:=E0) G (hr.mono hk) hg F.mgx F.fn.kp F.bd .nil iv hdb).weak fun σ H Q ⟨Hs,δ,r,S,En,e,K⟩=>by
  have h:tCall (spD 0 md) [] E0 (tDA ah) σ H Q:=tD_call ⟨Hs,δ,r,S,En,e,K⟩
  obtain ⟨Hs1,δ1,rs,S1,En1,e1,K1⟩:=h
  cases e1
  exact K1 [] Hs1 H (.refl S1) rfl
theorem ub {F:Fd X.K X.mg x st ps} (G:OkX X.prog X.w X.mg X.base k F.toFb (spX m mx)) (hp:bW (CXr X.prog X.w) X E) (hr:aQ j X.A) (ha:DA X (e::es) fr) (hk:k≤j:=by decide)
 (hg:Gl X x:=by rfl) (hdb:(x==("__debug__" : Str))=false:=by decide) (he:starEach (e::es) X.env=(false,eval e X.env)::starEach es X.env:=by exact aE rfl) (hpl:(backTo pos (starEach es X.env)).any (·.1)=false:=by rfl) :
 DEB X E (.Call (.Name x p) (e::es) [] pos) (aY m mx fr):=deb_call hp ⟨F.fn,F.mgx,F.bd⟩ G (hr.mono hk) ha hg hdb he hpl
theorem mb {C:Addr} {q:Str} {F:Ni X.K C q st ps} (c:Cd X.K X.mg C x) (G:OkX X.prog X.w X.mg X.base k F.toFb (spIX m mx)) (hp:bW (CXr X.prog X.w) X E) (hr:aQ j X.A) (ha:DA X (e::es) fr) (hk:k+1≤j:=by decide)
 (hg:Gl X x:=by rfl) (hdb:(x==("__debug__" : Str))=false:=by decide) (he:starEach (e::es) X.env=(false,eval e X.env)::starEach es X.env:=by exact aE rfl) (hpl:(backTo pos (starEach es X.env)).any (·.1)=false:=by rfl) :
 DEB X E (.Call (.Name x p) (e::es) [] pos) (aY m mx fr):=deb_make hp F.mk' G F.bd c.g (hr.mono hk) ha hg hdb he hpl
theorem xA (hN:X.N.Nodup) (he:DEB X E e G) (hi:X.N[i]?=some x:=by rfl) (hx:Loc X.env.scope x:=by first | exact .inl rfl | exact .inr rfl) (hs:swapsWith e (some (.Name x pos')) pos.line X.env=pure false:=by rfl)
 (hf:X.fn x=true∨X.env.scope.names.lookup x=some .local:=by first | exact .inl rfl | exact .inr rfl | assumption):DX X E (.Assign [.Name x pos'] e pos) G:=dx_set hN hi hx he.dex hs hf
end
section
variable {X:Cx} {E:XK} {tg elt iter:Expr} {scope:Scope} {pos spos py:Pos} {y:Str} {n i:Nat} {ix ks:List Nat} {g:GD} {fe:FE} {G:DSt→Option Addr} {fi:DSt→Option (List D)}
abbrev InX (X:Cx) (E:XK) (N:List Str) (scope:Scope) (tg elt:Expr) (ks:List Nat) (g:GD) (fe:FE) (G:DSt→Option Addr):Prop:=N.Nodup→∀ cl C s H fp,DG (bC X E N scope cl C s H fp) tg ks g∧DE (bC X E N scope cl C s H fp) elt fe∧DEB (bC X E N scope cl C s H fp) E elt G
theorem xc (N:List Str) (hX:XR X E) (hN:X.N.Nodup) (hi:DI X tg iter fi) (hin:InX X E N scope tg elt ks g fe G) (hc:X.calm=true:=by rfl) (S:gH X.env.scope X.N N n ix scope=true:=by kernel_rfl) (nd:N.Nodup:=by decide +kernel) (hk:∀ j∈ks,j<n:=by decide)
  (hiy:X.N[i]?=some y:=by rfl) (hy:Loc X.env.scope y:=by first | exact .inl rfl | exact .inr rfl) (hst:X.stack=X.env::X.outer:=by rfl) (hfm:X.env.frame=some X.env.locals:=by rfl) (hex:X.ex=[]:=by rfl)
  (hsw:swapsWith (.ListComp elt [⟨tg,iter,[],0⟩] scope pos) (some (.Name y py)) spos.line X.env=pure true:=by rfl) (hf:X.fn y=true∨X.env.scope.names.lookup y=some .local:=by first | exact .inl rfl | exact .inr rfl | assumption)
  (hs:∀ x,foldedSetIterable iter X.env x=pure x:=by intro _;rfl):DX X E (.Assign [.Name y py] (.ListComp elt [⟨tg,iter,[],0⟩] scope pos) spos) (iK fi g fe G n ix):=
 dx_comp hX hst hfm hex hc (fu rfl rfl S) hk hi (hin nd) hN hiy hy hsw hf hs
end
section
variable {X:Cx} {E:XK} {e:Expr} {Ge:DSt→Option Addr} {y z t:Str} {Y Cz:Addr} {ok:Addr→Option Bool} {j j2:Nat} {rpos np np2 cp cpos kp pos2 hpos pos:Pos}
theorem xty (hX:XR X (al E)) (he:∀ E',DEB (Cx.tr X E') E' e Ge) (dy:Xd X.K X.mg Y y) (hok:Xm X.K ok Y) (dz:Xd X.K X.mg Cz z)
  (hst:X.stack=X.env::X.outer:=by rfl) (hfm:X.env.frame=some X.env.locals:=by rfl) (hex:X.ex=[]:=by rfl)
  (hgy:Gl X y:=by rfl) (hdy:(y==("__debug__" : Str))=false:=by decide) (hgz:Gl X z:=by rfl) (hdz:(z==("__debug__" : Str))=false:=by decide) :
  DX X (al E) (.Try [.Return (some e) rpos] [.ExceptHandler (some (.Name y np)) none [.Raise (some (.Call (.Name z np2) [.Constant (.str t) j cp] [] cpos)) (some (.Constant .none j2 kp)) pos2] hpos] [] [] pos) (xtry ok Cz Ge):=
 dx_try hX he dy.g hok dz.g dz.x excBase_ValueError hst hfm hex hgy hdy hgz hdz
end
section
variable {P:Program} {w:World} {K:Frag} {mg:Str→Option Value} {base:Heap} {x q:Str} {st:Stmt} {ps:List Str} {k:Nat} {G:DSt→Option Addr}
theorem fIX {F0:Fb K x q st ps} {n:Nat} (L:List Str) (h:BodX P w mg base k F0 L G) (hn:ps.length=n+1:=by rfl) (S:cw (ps++L) ps (defScope st)=true:=by kernel_rfl):OkX P w mg base (k+1) F0 (spIX n (runIX (ps++L).length G)):=
 fn_IX hn F0.fn (cw.fs S) fun cdv A o s H E hr=>h cdv A o s H E hr (cw.fs S).nd
end
def ktOk:List Str→List Value→Bool
 | [],[]=>true
 | t::ts,.str z _::us=>t==z&&ktOk ts us
 | _,_=>false
theorem ktOk.vals:∀ {ts:List Str} {us:List Value},ktOk ts us=true→aA (ts.map V.str) us
 | [],[],_=>.nil
 | t::ts,.str z k::us,h=>by
  unfold ktOk at h
  rw [Bool.and_eq_true,beq_iff_eq] at h
  obtain ⟨rfl,h⟩:=h
  exact .cons ⟨k,rfl⟩ (ktOk.vals h)
 | [],_::_,h=>by cases h
 | _::_,[],h=>by cases h
 | _::_,.none::_,h=>by cases h
theorem kt_mk {K:Frag} {mg:Str→Option Value} {h:Heap} (KX:K.In h) (G:h.Ns mainGlobals mg) {n:Str} {ts:List Str} {a:Addr} {its:Array Value} {k:Nat} {sl:Array (Option Value)}
  (e1:nsIn K mainGlobals n=some (some (.ref a))) (e2:K.lookup a=some ⟨.type "tuple",none,.seq its k,sl⟩) (e3:(decide (its.size≤sizeLine)&&ktOk ts its.toList)=true):Kt K mg n ts:=by
 rw [Bool.and_eq_true] at e3
 exact ⟨a,_,its,k,mg_of KX G e1,e2,rfl,rfl,rfl,of_decide_eq_true e3.1,ktOk.vals e3.2⟩
end Ew
end
section
namespace Ew
open PySem PySem.Spec L2
structure Enc (α:Type) [DecidableEq α] where
 e:α→D
 k:Nat
 ok:∀ a,(e a).plain=true∧(e a).py.canLay0=true∧(e a).py.depth≤k
 eq:∀ a b,eqP (e a) (e b)=decide (a=b)
def Enc.int:Enc Int:=⟨.int,1,fun i=>by
 obtain ⟨a,b,c⟩:=bf (db i)
 exact ⟨a,b,by unfold D.py PyData.depth;omega⟩,il⟩
section
variable {α β:Type} [DecidableEq α] [DecidableEq β]
theorem eqP_tup2 (a b a' b':D):eqP (.tup [a,b]) (.tup [a',b'])=(eqP a a'&&eqP b b'):=by
 simp only [eqP,D.py,pys,PyData.eqv,PyData.eqvAll,Bool.and_true]
theorem kF {k:Nat} {ds:List D} (h:∀ d∈ds,d.py.depth≤k):PyData.depthAll (pys ds)≤k:=eT fun d hd=>by
 rw [dR] at hd
 obtain ⟨e,he,rfl⟩:=List.mem_map.mp hd
 exact h e he
theorem ok_tup {k:Nat} {ds:List D} (h:∀ d∈ds,d.plain=true∧d.py.canLay0=true∧d.py.depth≤k):(D.tup ds).plain=true∧(D.tup ds).py.canLay0=true∧(D.tup ds).py.depth≤k+1:=by
 refine ⟨?_,?_,?_⟩
 ·
  unfold D.plain;rw [fQ];exact List.all_eq_true.mpr fun d hd=>(h d hd).1
 ·
  unfold D.py PyData.canLay0;rw [dA,dR];exact List.all_eq_true.mpr fun d hd=>by
   obtain ⟨e,he,rfl⟩:=List.mem_map.mp hd
   exact (h e he).2.1
 ·
  unfold D.py PyData.depth
  have:=kF (k:=k) fun d hd=>(h d hd).2.2
  omega
def Enc.par (A:Enc α) (B:Enc β):Enc (α×β):=⟨fun s=>.tup [A.e s.1,B.e s.2],max A.k B.k+1,fun s=>ok_tup fun d hd=>by
 simp at hd
 rcases hd with rfl | rfl
 ·
  have:=A.ok s.1;exact ⟨this.1,this.2.1,by omega⟩
 ·
  have:=B.ok s.2;exact ⟨this.1,this.2.1,by omega⟩,fun a b=>by
 rw [eqP_tup2,A.eq,B.eq]
 rcases a with ⟨a1,a2⟩
 rcases b with ⟨b1,b2⟩
 simp⟩
variable (A:Enc α)
theorem Enc.okL (h:A.k≤15) (as:List α):Ew.okD (.lst (as.map A.e))=true:=iF fun d hd=>by
 obtain ⟨a,_,rfl⟩:=List.mem_map.mp hd
 obtain ⟨p,q,r⟩:=A.ok a
 exact ⟨p,q,by omega⟩
theorem Enc.oEqL (h:A.k≤15) (as bs:List α):Ew.oEq (.lst (as.map A.e)) (.lst (bs.map A.e))=some (.sh (.bl (decide (as=bs)))):=by
 unfold Ew.oEq
 rw [if_pos ⟨A.okL h as,A.okL h bs⟩]
 congr 3
 have key:∀ as bs:List α,PyData.eqvAll (pys (as.map A.e)) (pys (bs.map A.e))=decide (as=bs):=by
  intro as
  induction as with
  | nil=>intro bs;cases bs <;> simp [pys,PyData.eqvAll]
  | cons a as ih=>
   intro bs
   cases bs with
   | nil=>simp [pys,PyData.eqvAll]
   | cons b bs=>
    simp only [List.map_cons,pys,PyData.eqvAll,ih]
    have:=A.eq a b
    unfold eqP at this
    rw [this]
    simp
 unfold eqP D.py PyData.eqv
 exact key as bs
end
theorem atIn {α:Type} (xs:List α) (i:Nat):atI xs (i:Int)=xs[i]?:=by
 unfold atI ixN
 rw [if_pos (by omega)]
 by_cases h:i<xs.length
 ·
  rw [if_pos (by omega)];rfl
 ·
  rw [if_neg (by omega),List.getElem?_eq_none (by omega)];rfl
theorem dJ {α:Type} (xs:List α):atI xs 0=xs[0]?:=atIn xs 0
theorem eW {α:Type} (xs:List α):atI xs 1=xs[1]?:=atIn xs 1
end Ew
end
section
set_option maxHeartbeats 4000000
namespace Pg
open PySem PySem.Spec L2 Ew
def top (i:Nat):Stmt:=PySem.Challenge.pw_earworks_k08_written.main.body.getD i (.Pass ⟨0,0,0,0⟩)
structure CA where
 BadCount:Addr
 BadPoint:Addr
 BadText:Addr
 BadWeb:Addr
 Tied:Addr
 TooFew:Addr
 Web:Addr
 WebError:Addr
def gQ (c:CA):Addr→Option Bool:=isA [(c.BadWeb,true)]
def di (c:CA):Addr→Option Bool:=isA [(c.BadText,true)]
def dl (c:CA):Addr→Option Bool:=isA [(c.BadText,false)]
def dq (c:CA):Addr→Option Bool:=isA [(c.BadText,false)]
def fw (c:CA):Addr→Option Bool:=isA [(c.BadText,false)]
def dZ (c:CA):Addr→Option Bool:=isA [(c.BadText,true)]
def im (c:CA):Addr→Option Bool:=isA [(c.BadText,false)]
def fz (c:CA):Addr→Option Bool:=isA [(c.BadText,false)]
def cz (c:CA):Addr→Option Bool:=isA [(c.BadText,true)]
def aO:List Str:=["0", "1", "2", "3", "4", "5", "6", "7", "8", "9"]
structure Txt (K:Frag) (mg:Str→Option Value) (c:CA) where
 t_:Xd K mg c.BadCount "BadCount"
 s_:Xd K mg c.BadPoint "BadPoint"
 y_:Xd K mg c.BadText "BadText"
 r_:Xd K mg c.BadWeb "BadWeb"
 w_:Xd K mg c.Tied "Tied"
 v_:Xd K mg c.TooFew "TooFew"
 z_:Xd K mg c.WebError "WebError"
 a1_:Xo K c.BadText
 b1_:kitOne K (.ref c.BadText) (.ref c.WebError)=some true
 c1_:exmOne K (.ref c.BadText) (.ref c.WebError)=some true
 d1_:kitOne K (.ref c.BadText) (.ref c.BadCount)=some false
 e1_:kitOne K (.ref c.BadText) (.ref c.BadPoint)=some false
 f1_:kitOne K (.ref c.BadText) (.ref c.BadWeb)=some false
 g1_:kitOne K (.ref c.BadText) (.ref c.Tied)=some false
 h1_:kitOne K (.ref c.BadText) (.ref c.TooFew)=some false
 i1_:kitOne K (.ref c.BadText) (.type "ValueError")=some true
 j1_:exmOne K (.ref c.BadWeb) (.ref c.BadWeb)=some true
 j_:Cd K mg c.Web "Web"
 l_:NoAttr K c.Web "pairs"
 k_:NoAttr K c.Web "points"
 u_:mg "ValueError" = none
 i_:mg "all" = none
 x_:mg "any" = none
 a_:mg "bool" = none
 c_:mg "int" = none
 b_:mg "isinstance" = none
 d_:mg "len" = none
 h_:mg "list" = none
 o_:mg "max" = none
 p_:mg "min" = none
 q_:mg "range" = none
 m_:mg "str" = none
 e_:mg "tuple" = none
 f_:∃ t,mg "MOST_POINTS" = some (.int 8 t)
 g_:∃ t,mg "MOST_TIES" = some (.int 14 t)
 n_:Kt K mg "DIGITS" aO
 l1_:Fd K mg "is_number" (top 9) ["value"]
 m1_:Fd K mg "is_tie" (top 13) ["value", "points"]
 n1_:Ni K c.Web "Web.__init__" (inClass (top 14) 0) ["self", "points", "ties"]
 o1_:Md K c.Web "ties" "Web.ties" (inClass (top 14) 1) ["self"]
 p1_:Fd K mg "written_tie" (top 17) ["tie"]
 q1_:Fd K mg "written" (top 18) ["web"]
 r1_:Fd K mg "read_number" (top 19) ["text"]
 s1_:Fd K mg "read_tie" (top 20) ["text"]
 t1_:Fd K mg "read" (top 21) ["text"]
 u1_:Fd K mg "_law_cell_at" (top 23) ["_law_script", "_law_k"]
 v1_:Fd K mg "_law_draw" (top 24) ["_law_cell", "_law_k", "_law_many"]
 w1_:Fd K mg "_law_told" (top 25) ["_law_cell", "_law_least"]
 x1_:Fd K mg "_law_in" (top 28) ["_law_text"]
 y1_:Fd K mg "_law_refused" (top 29) ["_law_text"]
 z1_:Fd K mg "_law_right" (top 30) ["_law_text"]
 a2_:Fd K mg "_law_few" (top 31) []
 law:Fl' K mg (top 32)
theorem Txt.go {K:Frag} {mg:Str→Option Value} {aBadCount aBadPoint aBadText aBadWeb aTied aTooFew aWeb aWebError:Addr} (T:Txt K mg ⟨aBadCount,aBadPoint,aBadText,aBadWeb,aTied,aTooFew,aWeb,aWebError⟩):∃ c,Nonempty (Txt K mg c):=⟨_,⟨T⟩⟩
noncomputable section
variable {P:Program} {w:World} {K:Frag} {mg:Str→Option Value} {base:Heap} {c:CA} (T:Txt K mg c)
theorem kG (T:Txt K mg c):Xm K (di c) c.WebError:=xm_cons T.c1_ xm_nil
theorem kI (T:Txt K mg c):Xa K (dl c) (.ref c.BadCount):=dY T.a1_ T.d1_ fT
theorem kJ (T:Txt K mg c):Xa K (dq c) (.ref c.BadPoint):=dY T.a1_ T.e1_ fT
theorem KX_BadWeb (T:Txt K mg c):Xa K (fw c) (.ref c.BadWeb):=dY T.a1_ T.f1_ fT
theorem ln (T:Txt K mg c):Xa K (dZ c) (.ref c.BadText):=dY T.a1_ kit_self fT
theorem KX_Tied (T:Txt K mg c):Xa K (im c) (.ref c.Tied):=dY T.a1_ T.g1_ fT
theorem KX_TooFew (T:Txt K mg c):Xa K (fz c) (.ref c.TooFew):=dY T.a1_ T.h1_ fT
theorem i4 (T:Txt K mg c):Xa K (cz c) (.type "ValueError"):=dY T.a1_ T.i1_ fT
theorem KB_BadWeb (T:Txt K mg c):Xm K (gQ c) c.BadWeb:=xm_cons T.j1_ xm_nil
def g9 (c:CA):FS:=(bH ((dand (aF jQ (ad 0)) (dnot (aF is_bool (ad 0))))))
def bi (c:CA):List D→Option D:=run 1 (g9 c)
theorem cg:Ok P w mg base 1 T.l1_.toFb (spD 1 (bi c)):=fD [] fun _ _ _ _ _ _ hr nd=>
 (au (aW ((gG (ii_int dv T.c_ T.b_) (jJ (de_not (ii_bool dv T.a_ T.b_)))))))
def dL (c:CA):FS:=(aL (sif ((cI (be (ap (aF cC (ad 0)))) (ap (af oNe (ao bK (aa (ad 0) ah)) (ac (.int 2)))))) (bH (ac (.bl false))) aN) (bH ((dand (aq 1 (bi c) (aa (af oIx (ad 0) (ac (.int 0))) ah)) (dand (aq 1 (bi c) (aa (af oIx (ad 0) (ac (.int 1))) ah)) (gp oLe oLt oLt (ac (.int 0)) (af oIx (ad 0) (ac (.int 0))) (af oIx (ad 0) (ac (.int 1))) (ad 1)))))))
def bj (c:CA):List D→Option D:=run 2 (dL c)
theorem jp:Ok P w mg base 2 T.m1_.toFb (spD 2 (bj c)):=fD [] fun _ _ _ _ _ _ hr nd=>
 (am (i0 (t_or (bx (bX (ii_tuple dv T.e_ T.b_))) (t_ne (fJ T.d_ dv) ai hr)) (au (aW jg))) (au (aW ((gG (du (cg T) hr (d1 (dx dv ai))) (gG (du (cg T) hr (d1 (dx dv ai))) (jJ (de_chain3 fO iB iB ai (dx dv ai) (dx dv ai) dv))))))))
def bg (c:CA):List D→Option Addr:=runIX 3 (xor (xif ((cI (be (ap (aq 1 (bi c) (aa (ad 1) ah)))) (be (ap (cH oLe oLe (ac (.int 1)) (ad 1) (ac (.int 8))))))) (fun _=>some c.BadWeb) xno) (fE (sif ((cI (be (ap (aq 1 (bi c) (aa (ad 1) ah)))) (be (ap (cH oLe oLe (ac (.int 1)) (ad 1) (ac (.int 8))))))) ((fun _=>none)) aN) (xor (xif ((cI (be (ap (aF cL (ad 2)))) (ap (af oGt (ao bK (aa (ad 2) ah)) (ac (.int 14)))))) (fun _=>some c.BadWeb) xno) (fE (sif ((cI (be (ap (aF cL (ad 2)))) (ap (af oGt (ao bK (aa (ad 2) ah)) (ac (.int 14)))))) ((fun _=>none)) aN) (xif (be (ap (ao hU (aa (bI (bb (ad 2)) (aH 0) cn (aq 2 (bj c) (aa (ad 0) (aa (ad 1) ah))) 1 [1]) ah)))) (fun _=>some c.BadWeb) xno)))))
theorem gR:OkX P w mg base 3 T.n1_.toFb (spIX 2 (bg c)):=fIX [] fun _ _ _ _ _ _ hr nd=>
 (gN (aZ (jl (t_or (bx (bX (du (cg T) hr (d1 dv)))) (bx (gf fO fO ai dv (dk T.f_)))) (aZ (dI eU T.r_.g T.r_.x excBase_ValueError hr.hd)) gM)) (cD (i0 (t_or (bx (bX (du (cg T) hr (d1 dv)))) (bx (gf fO fO ai dv (dk T.f_)))) (au (bP))) (gN (aZ (jl (t_or (bx (bX (jU dv T.h_ T.b_))) (tc2 fP (fJ T.d_ dv) (dk T.g_))) (aZ (dI eU T.r_.g T.r_.x excBase_ValueError hr.hd)) gM)) (cD (i0 (t_or (bx (bX (jU dv T.h_ T.b_))) (tc2 fP (fJ T.d_ dv) (dk T.g_))) (au (bP))) (aZ (jl (bx (bX (b_all T.i_ (dc ["tie", "points"] (cb dv) (fun nd _ _ _ _ _=>⟨(gn nd),bJ,(du (jp T) hr (ae dv (d1 dv)))⟩))))) (aZ (dI eU T.r_.g T.r_.x excBase_ValueError hr.hd)) gM))))))
def ci (c:CA):FS:=(aL (sif ((cI (be (ap (aq 1 (bi c) (aa (ad 1) ah)))) (be (ap (cH oLe oLe (ac (.int 1)) (ad 1) (ac (.int 8))))))) ((fun _=>none)) aN) (aL (sif ((cI (be (ap (aF cL (ad 2)))) (ap (af oGt (ao bK (aa (ad 2) ah)) (ac (.int 14)))))) ((fun _=>none)) aN) (aL (sif (be (ap (ao hU (aa (bI (bb (ad 2)) (aH 0) cn (aq 2 (bj c) (aa (ad 0) (aa (ad 1) ah))) 1 [1]) ah)))) ((fun _=>none)) aN) (aL (sfldN c.Web "points" (gZ (ad 1))) (sfldN c.Web "pairs" (jj (bb (ad 2)) (aH 0) cn (ntup (fR (gZ (af oIx (ad 0) (ac (.int 0)))) (fR (gZ (af oIx (ad 0) (ac (.int 1)))) nanil))) 1 []))))))
def br (c:CA):List D→Option (List (Str×D)):=fun ds=>unif fun p=>runIN 3 c.Web (ci c) ds p
theorem eI:Ok P w mg base 3 T.n1_.toFb (spIN c.Web 2 (br c)):=fI [] fun _ _ _ _ _ _ hr nd=>
 (am (i0 (t_or (bx (bX (du (cg T) hr (d1 dv)))) (bx (gf fO fO ai dv (dk T.f_)))) (au (bP))) (am (i0 (t_or (bx (bX (jU dv T.h_ T.b_))) (tc2 fP (fJ T.d_ dv) (dk T.g_))) (au (bP))) (am (i0 (bx (bX (b_all T.i_ (dc ["tie", "points"] (cb dv) (fun nd _ _ _ _ _=>⟨(gn nd),bJ,(du (jp T) hr (ae dv (d1 dv)))⟩))))) (au (bP))) (am (ds_fldN (C:=c.Web) (pv 0) (jT dv) ⟨T.j_.cls,T.k_⟩) (au (ds_fldN (C:=c.Web) (pv 0) (nc ["tie"] (cb dv) (fun nd _ _ _ _ _=>⟨(gn nd),bJ,(dn_tup (kv (jT (dx dv ai)) (kv (jT (dx dv ai)) dna_nil)))⟩)) ⟨T.j_.cls,T.l_⟩))))))
def iM (c:CA):FS:=(bH (ao oList (aa (dfld (isC c.Web) "pairs" (ad 0)) ah)))
def bL (c:CA):List D→Option D:=run 1 (iM c)
theorem hG:Ok P w mg base 1 T.o1_.toFb (spD 1 (bL c)):=fD [] fun _ _ _ _ _ _ hr nd=>
 (au (aW (eA c_list boot_list T.h_ (d1 (df dv T.j_.cls T.l_)))))
def i5 (c:CA):FS:=(bH (de "-" (bI (itup (ad 0)) (aH 0) cn (ao cW (aa (ad 0) ah)) 1 [])))
def cA (c:CA):List D→Option D:=run 1 (i5 c)
theorem iN:Ok P w mg base 1 T.p1_.toFb (spD 1 (cA c)):=fD [] fun _ _ _ _ _ _ hr nd=>
 (au (aW (iI (dc ["point"] (di_tup dv) (fun nd _ _ _ _ _=>⟨(gn nd),bJ,(eA c_str boot_str T.m_ (d1 dv))⟩)))))
def F_written (c:CA):FS:=(bH (de "; " (af aC (bz (aa (ao cW (aa (dfld (isC c.Web) "points" (ad 0)) ah)) ah)) (bI (bb ((ez c.Web "ties" 1 (bL c) (ad 0) ah))) (aH 0) cn (aq 1 (cA c) (aa (ad 0) ah)) 1 []))))
def dM (c:CA):List D→Option D:=run 1 (F_written c)
theorem iO:Ok P w mg base 2 T.q1_.toFb (spD 1 (dM c)):=fD [] fun _ _ _ _ _ _ hr nd=>
 (au (aW (iI (aG aJ (bG (d1 (eA c_str boot_str T.m_ (d1 (df dv T.j_.cls T.k_))))) (dc ["tie"] (cb ((dm0 T.j_.cls (hG T) hr dv))) (fun nd _ _ _ _ _=>⟨(gn nd),bJ,(du (iN T) hr (d1 dv))⟩))))))
def aU (c:CA):List D→Option Addr:=gO 1 (xif (ap (dinK true aO (ad 0))) (fun _=>some c.BadText) xno)
theorem cJ:OkX P w mg base 1 T.r1_.toFb (spX 1 (aU c)):=fX [] fun _ _ _ _ _ _ hr nd=>
 (aZ (jl (kA dv T.n_) (aZ (dI eU T.y_.g T.y_.x excBase_ValueError hr.hd)) gM))
def i6 (c:CA):FS:=(aL (sif (ap (dinK true aO (ad 0))) ((fun _=>none)) aN) (bH (dixK aO (ad 0))))
def aS (c:CA):List D→Option D:=run 1 (i6 c)
theorem bu:Ok P w mg base 1 T.r1_.toFb (spD 1 (aS c)):=fD [] fun _ _ _ _ _ _ hr nd=>
 (am (i0 (kA dv T.n_) (au (bP))) (au (aW (d_ixK T.n_ dv))))
def a9 (c:CA):List D→Option Addr:=gO 2 (fE (sset 1 (cf "-" (ad 0))) (xor (xif (ap (af oNe (ao bK (aa (ad 1) ah)) (ac (.int 2)))) (fun _=>some c.BadText) xno) (fE (sif (ap (af oNe (ao bK (aa (ad 1) ah)) (ac (.int 2)))) ((fun _=>none)) aN) (xor (aY 1 (aU c) (aa (af oIx (ad 1) (ac (.int 0))) ah)) (xnext (aq 1 (aS c) (aa (af oIx (ad 1) (ac (.int 0))) ah)) (aY 1 (aU c) (aa (af oIx (ad 1) (ac (.int 1))) ah)))))))
theorem jX:OkX P w mg base 2 T.s1_.toFb (spX 1 (a9 c)):=fX ["ends"] fun _ _ _ _ _ _ hr nd=>
 (cD (sA nd (gv dv)) (gN (aZ (jl (t_ne (fJ T.d_ dv) ai hr) (aZ (dI eU T.y_.g T.y_.x excBase_ValueError hr.hd)) gM)) (cD (i0 (t_ne (fJ T.d_ dv) ai hr) (au (bP))) (aZ (dx_or (dx_ret (dex_tup (kC (ub (cJ T) eU.pass hr (d1 (dx dv ai))).dex ⟨_,(show DA _ _ (aa (aq 1 (aS c) (aa (af oIx (ad 1) (ac (.int 1))) ah)) ah) from d1 (du (bu T) hr (d1 (dx dv ai)))).go⟩))) (dx_ret (dex_tup (dax_next (du (bu T) hr (d1 (dx dv ai))) (kC (ub (cJ T) eU.pass hr (d1 (dx dv ai))).dex ⟨_,jK.go⟩)))))))))
def lq (c:CA):FS:=(aL (sset 1 (cf "-" (ad 0))) (aL (sif (ap (af oNe (ao bK (aa (ad 1) ah)) (ac (.int 2)))) ((fun _=>none)) aN) (bH (ck (aa (aq 1 (aS c) (aa (af oIx (ad 1) (ac (.int 0))) ah)) (aa (aq 1 (aS c) (aa (af oIx (ad 1) (ac (.int 1))) ah)) ah))))))
def bc (c:CA):List D→Option D:=run 2 (lq c)
theorem eX:Ok P w mg base 2 T.s1_.toFb (spD 1 (bc c)):=fD ["ends"] fun _ _ _ _ _ _ hr nd=>
 (am (sA nd (gv dv)) (am (i0 (t_ne (fJ T.d_ dv) ai hr) (au (bP))) (au (aW (cP (ae (du (bu T) hr (d1 (dx dv ai))) (d1 (du (bu T) hr (d1 (dx dv ai))))))))))
def cM (c:CA):List D→Option Addr:=gO 4 (xor (xif (be (ap (aF dW (ad 0)))) (fun _=>some c.BadText) xno) (fE (sif (be (ap (aF dW (ad 0)))) ((fun _=>none)) aN) (fE (sset 1 (cf "; " (ad 0))) (xor (aY 1 (aU c) (aa (af oIx (ad 1) (ac (.int 0))) ah)) (fE (sset 2 (aq 1 (aS c) (aa (af oIx (ad 1) (ac (.int 0))) ah))) (xor (iK (bb (bY (ad 1) (bR (ac (.int 1))) cc)) (aH 0) (aq 1 (bc c) (aa (ad 0) ah)) (aY 1 (a9 c) (aa (ad 0) ah)) 1 []) (fE (sset 3 (bI (bb (bY (ad 1) (bR (ac (.int 1))) cc)) (aH 0) cn (aq 1 (bc c) (aa (ad 0) ah)) 1 [])) (xfrz 3 (xtry (gQ c) c.BadText (aY 2 (bg c) (aa (ad 2) (aa (ad 3) ah))))))))))))
theorem okx_read:OkX P w mg base 5 T.t1_.toFb (spXa 1 (cM c)):=fA ["parts", "points", "ties"] fun _ _ _ _ _ _ hr nd=>
 (gN (aZ (jl (bx (bX (ii_str dv T.m_ T.b_))) (aZ (dI (xr_al eU) T.y_.g T.y_.x excBase_ValueError hr.hd)) gM)) (cD (i0 (bx (bX (ii_str dv T.m_ T.b_))) (au (bP))) (cD (sA nd (gv dv)) (gN (aZ (xA (i:=2) nd (ub (cJ T) (xr_al eU).pass hr (d1 (dx dv ai))))) (cD (sA nd (du (bu T) hr (d1 (dx dv ai)))) (gN (aZ (xc (i:=3) ["part"] (xr_al eU) nd (cb (eR dv (dU ai) dS)) (fun nd _ _ _ _ _=>⟨(gn nd),(du (eX T) hr (d1 dv)),(ub (jX T) zx_pass hr (d1 dv))⟩))) (cD (sc ["part"] nd (cb (eR dv (dU ai) dS)) (fun nd _ _ _ _ _=>⟨(gn nd),bJ,(du (eX T) hr (d1 dv))⟩)) (aZ (dx_frz (xty (xr_al eU) (fun _=>(mb T.j_ (gR T) ztry_pass hr (ae dv (d1 dv)))) T.r_ (KB_BadWeb T) T.y_))))))))))
def F_read (c:CA):FS:=(aL (sif (be (ap (aF dW (ad 0)))) ((fun _=>none)) aN) (aL (sset 1 (cf "; " (ad 0))) (aL (sset 2 (aq 1 (aS c) (aa (af oIx (ad 1) (ac (.int 0))) ah))) (aL (sset 3 (bI (bb (bY (ad 1) (bR (ac (.int 1))) cc)) (aH 0) cn (aq 1 (bc c) (aa (ad 0) ah)) 1 [])) (sfrz 3 (ji (gt c.Web 2 (br c) (aa (ad 2) (aa (ad 3) ah)))))))))
def iP (c:CA):List D→Option D:=runN 4 (F_read c)
theorem ok_read:Ok P w mg base 5 T.t1_.toFb (spN 1 (iP c)):=fN ["parts", "points", "ties"] fun _ _ _ _ _ _ hr nd=>
 (am (i0 (bx (bX (ii_str dv T.m_ T.b_))) (au (bP))) (am (sA nd (gv dv)) (am (sA nd (du (bu T) hr (d1 (dx dv ai)))) (am (sc ["part"] nd (cb (eR dv (dU ai) dS)) (fun nd _ _ _ _ _=>⟨(gn nd),bJ,(du (eX T) hr (d1 dv))⟩)) (au (ds_frz (ds_tryR (ds_retN' (nk T.j_ (eI T) hr (ae dv (d1 dv)))))))))))
noncomputable def bB (c:CA) (K:Frag):FS:=(aL (sif (ap (af oLt (ad 1) (dlenS K 0))) (bH (dixS K 0 (ad 1))) aN) (bH (ac (.int 0))))
noncomputable def aT (c:CA) (K:Frag):List Int→Int→Option Int:=runS 2 K (bB c K)
theorem cj:Ok P w mg base 1 T.u1_.toFb (spS K (aT c K)):=fS [] fun _ _ _ _ _ _ hr nd=>
 (am (i0 (tc2 iB dv (de_lenS (pv 0) (by rfl) T.d_)) (au (aW (de_ixS (pv 0) dv (fun _ _=>rfl))))) (au (aW ai)))
def lr (c:CA):FS:=(aL (sset 3 (ck (aa (ac (.int 1000003)) (aa (ac (.int 1000033)) (aa (ac (.int 1000037)) (aa (ac (.int 1000039)) (aa (ac (.int 1000081)) (aa (ac (.int 1000099)) (aa (ac (.int 1000117)) (aa (ac (.int 1000121)) (aa (ac (.int 1000133)) (aa (ac (.int 1000151)) (aa (ac (.int 1000159)) (aa (ac (.int 1000171)) (aa (ac (.int 1000183)) (aa (ac (.int 1000187)) (aa (ac (.int 1000193)) (aa (ac (.int 1000199)) ah)))))))))))))))))) (bH (af oMod (af oMod (af aC (af bo (ad 0) (ac (.int 48271))) (af bo (ad 1) (ac (.int 69621)))) (af oIx (ad 3) (af oMod (ad 1) (ac (.int 16))))) (ad 2))))
def ar (c:CA):List D→Option D:=run 4 (lr c)
theorem aP:Ok P w mg base 1 T.v1_.toFb (spD 3 (ar c)):=fD ["_law_primes"] fun _ _ _ _ _ _ hr nd=>
 (am (sA nd (cP (ae ai (ae ai (ae ai (ae ai (ae ai (ae ai (ae ai (ae ai (ae ai (ae ai (ae ai (ae ai (ae ai (ae ai (ae ai (d1 ai)))))))))))))))))) (au (aW (aG ft (aG ft (aG aJ (aG bV dv ai) (aG bV dv ai)) (dx dv (aG ft dv ai))) dv))))
def ls (c:CA):FS:=(aL (sset 2 (ba fH (aa (ad 1) (aa (af oIx (ck (aa (ac (.int 4)) (aa (ac (.int 5)) (aa (ac (.int 3)) (aa (ac (.int 6)) (aa (ac (.int 2)) (aa (ac (.int 7)) (aa (ac (.int 1)) (aa (ac (.int 8)) ah))))))))) (aq 3 (ar c) (aa (ad 0) (aa (ac (.int 1)) (aa (ac (.int 8)) ah))))) ah)))) (aL (sset 3 (aq 3 (ar c) (aa (ad 0) (aa (ac (.int 2)) (aa (ac (.int 4)) ah))))) (aL (sset 4 (bz ah)) (aL (sset 5 (af oIx (ck (aa (ac (.int 1)) (aa (ac (.int 3)) (aa (ac (.int 5)) (aa (ac (.int 7)) ah))))) (aq 3 (ar c) (aa (ad 0) (aa (ac (.int 3)) (aa (ac (.int 4)) ah)))))) (aL (sif ((gg (ap (af oEq (af oMod (ad 2) (ad 5)) (ac (.int 0)))) (ap (af oGt (ad 5) (ac (.int 1)))))) (sset 5 (ac (.int 1))) aN) (aL (sif ((gg (ap (af oGt (ad 3) (ac (.int 0)))) (ap (af oGt (ad 2) (ac (.int 1)))))) (eP (gk (aa (af aC (af oSub (ad 2) (ac (.int 1))) (ba dF (aa (af oSub (ad 3) (ac (.int 1))) (aa (ac (.int 1)) ah)))) ah)) (aH 6) (aL (jh 7 8 (af oMod (af bo (ad 6) (ad 5)) (ad 2)) (af oMod (af bo (af aC (ad 6) (ac (.int 1))) (ad 5)) (ad 2))) (hV 4 (ck (aa (ba dF (aa (ad 7) (aa (ad 8) ah))) (aa (ba fH (aa (ad 7) (aa (ad 8) ah))) ah)))))) aN) (aL (sset 9 (af oIx (ck (aa (ac (.int 9)) (aa (ac (.int 4)) ah))) (ba dF (aa (ad 3) (aa (ac (.int 1)) ah))))) (aL (sif (ap (af oEq (aq 3 (ar c) (aa (ad 0) (aa (ac (.int 8)) (aa (ac (.int 4)) ah)))) (ac (.int 0)))) (sset 9 (ac (.int 15))) aN) (aL (eP (gk (aa (aq 3 (ar c) (aa (ad 0) (aa (ac (.int 4)) (aa (ad 9) ah)))) ah)) (aH 6) (aL (sset 7 (aq 3 (ar c) (aa (af bo (af aC (ad 0) (af bo (ac (.int 977)) (ad 6))) (af aC (ad 6) (ac (.int 3)))) (aa (ac (.int 5)) (aa (ad 2) ah))))) (aL (sset 8 (aq 3 (ar c) (aa (af bo (af aC (ad 0) (af bo (ac (.int 31)) (ad 6))) (af aC (ad 6) (ac (.int 5)))) (aa (ac (.int 6)) (aa (ad 2) ah))))) (sif (ap (af oNe (ad 7) (ad 8))) (hV 4 (ck (aa (ba dF (aa (ad 7) (aa (ad 8) ah))) (aa (ba fH (aa (ad 7) (aa (ad 8) ah))) ah)))) aN)))) (aL (sif (ap (af oEq (aq 3 (ar c) (aa (ad 0) (aa (ac (.int 7)) (aa (ac (.int 2)) ah)))) (ac (.int 0)))) (sset 4 (drev (ad 4) (dun oNeg (ac (.int 1))))) aN) (bH (ck (aa (ad 2) (aa (bY (ad 4) cc (bR (ac (.int 14)))) ah))))))))))))))
def fU (c:CA):List D→Option D:=run 10 (ls c)
theorem kK:Ok P w mg base 2 T.w1_.toFb (spD 2 (fU c)):=fD ["_law_points", "_law_kind", "_law_ties", "_law_turn", "_law_k", "_law_one", "_law_other", "_law_most"] fun _ _ _ _ _ _ hr nd=>
 (am (sA nd (iD (c_max2 rfl) boot_max T.o_ (ae dv (d1 (dx (cP (ae ai (ae ai (ae ai (ae ai (ae ai (ae ai (ae ai (d1 ai))))))))) (du (aP T) hr (ae dv (ae ai (d1 ai))))))))) (am (sA nd (du (aP T) hr (ae dv (ae ai (d1 ai))))) (am (sA nd (bG jK)) (am (sA nd (dx (cP (ae ai (ae ai (ae ai (d1 ai))))) (du (aP T) hr (ae dv (ae ai (d1 ai)))))) (am (i0 (t_and (t_eq (aG ft dv dv) ai hr) (tc2 fP dv ai)) (au (sA nd ai))) (am (i0 (t_and (tc2 fP dv ai) (tc2 fP dv ai)) (au (sf (ir T.q_ (aG aJ (aG op_oSub dv ai) (iD (jO rfl) boot_min T.p_ (ae (aG op_oSub dv ai) (d1 ai))))) (gn nd) (am (ds_par rfl nd rfl rfl (by decide) rfl rfl (aG ft (aG bV dv dv) dv) (aG ft (aG bV (aG aJ dv ai) dv) dv) rfl) (au (gI (pv 4) (cP (ae (iD (jO rfl) boot_min T.p_ (ae dv (d1 dv))) (d1 (iD (c_max2 rfl) boot_max T.o_ (ae dv (d1 dv)))))))))))) (am (sA nd (dx (cP (ae ai (d1 ai))) (iD (jO rfl) boot_min T.p_ (ae dv (d1 ai))))) (am (i0 (t_eq (du (aP T) hr (ae dv (ae ai (d1 ai)))) ai hr) (au (sA nd ai))) (am (sf (ir T.q_ (du (aP T) hr (ae dv (ae ai (d1 dv))))) (gn nd) (am (sA nd (du (aP T) hr (ae (aG bV (aG aJ dv (aG bV ai dv)) (aG aJ dv ai)) (ae ai (d1 dv))))) (am (sA nd (du (aP T) hr (ae (aG bV (aG aJ dv (aG bV ai dv)) (aG aJ dv ai)) (ae ai (d1 dv))))) (au (i0 (t_ne dv dv hr) (au (gI (pv 4) (cP (ae (iD (jO rfl) boot_min T.p_ (ae dv (d1 dv))) (d1 (iD (c_max2 rfl) boot_max T.o_ (ae dv (d1 dv))))))))))))) (am (i0 (t_eq (du (aP T) hr (ae dv (ae ai (d1 ai)))) ai hr) (au (sA nd (de_rev dv (de_neg ai))))) (au (aW (cP (ae dv (d1 (eR dv dS (dU ai)))))))))))))))))
def F_law_in (c:CA):FS:=(aL (sset 1 (cf "; " (ad 0))) (aL (sif ((cI (ap (af cQ (af oIx (ad 1) (ac (.int 0))) (bz (aa (ac (.str "1")) (aa (ac (.str "2")) (aa (ac (.str "3")) (aa (ac (.str "4")) (aa (ac (.str "5")) (aa (ac (.str "6")) (aa (ac (.str "7")) (aa (ac (.str "8")) ah))))))))))) (ap (af oGt (ao bK (aa (ad 1) ah)) (ac (.int 15)))))) (bH (ac .non)) aN) (aL (sset 2 (bz ah)) (aL (eP (bb (bY (ad 1) (bR (ac (.int 1))) cc)) (aH 3) (aL (sif ((cI (ap (af oNe (ao bK (aa (ad 3) ah)) (ac (.int 3)))) (cI (ap (af oNe (af oCh (ad 3) (ac (.int 1))) (ac (.str "-")))) (cI (ap (af dh (af oCh (ad 3) (ac (.int 0))) (ac (.str "01234567")))) (ap (af dh (af oCh (ad 3) (ac (.int 2))) (ac (.str "01234567")))))))) (bH (ac .non)) aN) (aL (sif (be (ap (cH oLt oLt (ao bT (aa (af oCh (ad 3) (ac (.int 0))) ah)) (ao bT (aa (af oCh (ad 3) (ac (.int 2))) ah)) (ao bT (aa (af oIx (ad 1) (ac (.int 0))) ah))))) (bH (ac .non)) aN) (hV 2 (ck (aa (ao bT (aa (af oCh (ad 3) (ac (.int 0))) ah)) (aa (ao bT (aa (af oCh (ad 3) (ac (.int 2))) ah)) ah))))))) (sfrz 2 (bH (ck (aa (ao bT (aa (af oIx (ad 1) (ac (.int 0))) ah)) (aa (ad 2) ah)))))))))
def gw (c:CA):List D→Option D:=run 4 (F_law_in c)
theorem ok_law_in:Ok P w mg base 1 T.x1_.toFb (spD 1 (gw c)):=fD ["_law_parts", "_law_ties", "_law_part"] fun _ _ _ _ _ _ hr nd=>
 (am (sA nd (gv dv)) (am (i0 (t_or (t_ni (dx dv ai) (bG (ae aw (ae aw (ae aw (ae aw (ae aw (ae aw (ae aw (d1 aw))))))))) hr) (tc2 fP (fJ T.d_ dv) ai)) (au (aW iC))) (am (sA nd (bG jK)) (am (sf (cb (eR dv (dU ai) dS)) (gn nd) (am (i0 (DW.dt (dw_or (t_ne (fJ T.d_ dv) ai hr) (dw_or (t_ne (d_ch dv ai) aw hr) (dw_or (tc2 iJ (d_ch dv ai) aw (by with_unfolding_all rfl)) (dw_or1 (tc2 iJ (d_ch dv ai) aw (by with_unfolding_all rfl))))))) (au (aW iC))) (am (i0 (bx (gf iB iB (eA gP boot_int T.c_ (d1 (d_ch dv ai))) (eA gP boot_int T.c_ (d1 (d_ch dv ai))) (eA gP boot_int T.c_ (d1 (dx dv ai))))) (au (aW iC))) (au (gI (pv 2) (cP (ae (eA gP boot_int T.c_ (d1 (d_ch dv ai))) (d1 (eA gP boot_int T.c_ (d1 (d_ch dv ai))))))))))) (au (ds_frz (aW (cP (ae (eA gP boot_int T.c_ (d1 (dx dv ai))) (d1 dv))))))))))
def i7 (c:CA):FS:=(aL (stry 1 (di c) (aY 1 (cM c) (aa (ad 0) ah)) (aL (sset 2 (bz (aa (h7 1 (dl c)) (aa (h7 1 (dq c)) (aa (h7 1 (fw c)) ah))))) (aL (sset 2 (af aC (ad 2) (bz (aa (h7 1 (im c)) (aa (h7 1 (fz c)) (aa (dnot (h7 1 (cz c))) ah)))))) (bH ((dand (h7 1 (dZ c)) (dnot (ao oAny (aa (ad 2) ah))))))))) (bH (ac (.bl false))))
def bp (c:CA):List D→Option D:=run 3 (i7 c)
theorem eY:Ok P w mg base 6 T.y1_.toFb (spD 1 (bp c)):=fD ["error", "_law_others"] fun _ _ _ _ _ _ hr nd=>
 (am (sty (okx_read T) hr (d1 dv) T.z_ (kG T) nd fun _ _ _ _ hf h2=>(am (sA nd (bG (ae (ixc T.t_ (kI T) T.b_) (ae (ixc T.s_ (kJ T) T.b_) (d1 (ixc T.r_ (KX_BadWeb T) T.b_)))))) (am (sA nd (aG aJ dv (bG (ae (ixc T.w_ (KX_Tied T) T.b_) (ae (ixc T.v_ (KX_TooFew T) T.b_) (d1 (de_not (ixt T.u_ (i4 T) T.b_)))))))) (au (aW ((gG (ixc T.y_ (ln T) T.b_) (jJ (de_not (de_b1 (c_anyX hf h2) boot_any T.x_ (d1 dv))))))))))) (au (aW jg)))
def kL (c:CA):FS:=(aL (sset 1 (aq 1 (gw c) (aa (ad 0) ah))) (aL (sif (ap (af oIs (ad 1) (ac .non))) (bH (aq 1 (bp c) (aa (ad 0) ah))) aN) (aL (sset 2 (dnw (g8 1 (iP c) (aa (ad 0) ah)))) (bH ((dand (af oEq (dfld (isC c.Web) "points" (ad 2)) (af oIx (ad 1) (ac (.int 0)))) (dand (af oEq ((ez c.Web "ties" 1 (bL c) (ad 2) ah)) (af oIx (ad 1) (ac (.int 1)))) (af oEq (aq 1 (dM c) (aa (ad 2) ah)) (ad 0)))))))))
def bn (c:CA):List D→Option D:=run 3 (kL c)
theorem d6:Ok P w mg base 7 T.z1_.toFb (spD 1 (bn c)):=fD ["_law_due", "_law_found"] fun _ _ _ _ _ _ hr nd=>
 (am (sA nd (du (ok_law_in T) hr (d1 dv))) (am (i0 (tc2 op_oIs dv iC) (au (aW (du (eY T) hr (d1 dv))))) (am (sA nd (de_dn (nu (ok_read T) hr (d1 dv)))) (au (aW ((gG (c_eq (df dv T.j_.cls T.k_) (dx dv ai) hr) (gG (c_eq ((dm0 T.j_.cls (hG T) hr dv)) (dx dv ai) hr) (jJ (c_eq (du (iO T) hr (d1 dv)) dv hr))))))))))
def F_law_few (c:CA):FS:=(aL (sset 0 (bz (aa (ac (.str "")) (aa (ac (.str "0")) (aa (ac (.str "1")) (aa (ac (.str "8")) (aa (ac (.str "9")) (aa (ac (.str "10")) (aa (ac (.str " 3")) (aa (ac (.str "3 ")) (aa (ac (.str "3;")) (aa (ac (.str "3; ")) (aa (ac (.str "3;0-1")) (aa (ac (.str "3; 0-1")) (aa (ac (.str "3; 1-0")) (aa (ac (.str "3; 0-0")) (aa (ac (.str "3; 0-3")) ah))))))))))))))))) (aL (sset 0 (af aC (ad 0) (bz (aa (ac (.str "3; 0-1; 0-1")) (aa (ac (.str "3; 0-1;0-2")) (aa (ac (.str "3; 0-1; ")) (aa (ac (.str "3; 0--1")) (aa (ac (.str "3; 01-2")) (aa (ac (.str "3; 0 1")) (aa (ac (.str "3; 0-1\n")) (aa (ac (.str "3; a-b")) ah))))))))))) (aL (sset 0 (af aC (ad 0) (bz (aa (ac (.str "3; 0-1;  1-2")) (aa (ac (.str "03; 0-1")) (aa (ac (.str "8; 0-7")) (aa (ac (.str "8; 0-8")) (aa (ac (.str "-3")) (aa (ac (.str "3, 0-1")) (aa (de "; " (af aC (bz (aa (ac (.str "2")) ah)) (af bo (bz (aa (ac (.str "0-1")) ah)) (ac (.int 14))))) ah)))))))))) (bH (af aC (ad 0) (bz (aa (de "; " (af aC (bz (aa (ac (.str "2")) ah)) (af bo (bz (aa (ac (.str "0-1")) ah)) (ac (.int 15))))) (aa (ac (.str "3; 0-1-2")) (aa (ac (.str "3; +-1")) ah)))))))))
def cx (c:CA):List D→Option D:=run 1 (F_law_few c)
theorem lu:Ok P w mg base 1 T.a2_.toFb (spD 0 (cx c)):=fD ["_law_some"] fun _ _ _ _ _ _ hr nd=>
 (am (sA nd (bG (ae aw (ae aw (ae aw (ae aw (ae aw (ae aw (ae aw (ae aw (ae aw (ae aw (ae aw (ae aw (ae aw (ae aw (d1 aw))))))))))))))))) (am (sA nd (aG aJ dv (bG (ae aw (ae aw (ae aw (ae aw (ae aw (ae aw (ae aw (d1 aw))))))))))) (am (sA nd (aG aJ dv (bG (ae aw (ae aw (ae aw (ae aw (ae aw (ae aw (d1 (iI (aG aJ (bG (d1 aw)) (aG bV (bG (d1 aw)) ai))))))))))))) (au (aW (aG aJ dv (bG (ae (iI (aG aJ (bG (d1 aw)) (aG bV (bG (d1 aw)) ai))) (ae aw (d1 aw))))))))))
noncomputable def F_law (c:CA) (K:Frag):FS:=(aL (sset 1 (aq 2 (fU c) (aa (af aC (dX K 0 (aT c K) (ac (.int 0))) (af bo (ac (.int 31)) (dX K 0 (aT c K) (ac (.int 1))))) (aa (ac (.int 1)) ah)))) (aL (sset 2 (de "; " (af aC (bz (aa (ao cW (aa (af oIx (ad 1) (ac (.int 0))) ah)) ah)) (bI (bb (af oIx (ad 1) (ac (.int 1)))) (gtup 2 (fG (aH 0) (fG (aH 1) gnil))) cn (af aC (af aC (ao cW (aa (ad 0) ah)) (ac (.str "-"))) (ao cW (aa (ad 1) ah))) 2 [])))) (aL (sif ((cI (ap (af oNe (aq 1 (dM c) (aa (dnw (gt c.Web 2 (br c) (aa (af oIx (ad 1) (ac (.int 0))) (aa (af oIx (ad 1) (ac (.int 1))) ah)))) ah)) (ad 2))) (be (ap (aq 1 (bn c) (aa (ad 2) ah)))))) (bH (ac (.bl false))) aN) (aL (sset 3 (af aC (dX K 0 (aT c K) (ac (.int 2))) (af bo (ac (.int 7)) (dX K 0 (aT c K) (ac (.int 0)))))) (aL (eP (gk (aa (ac (.int 2)) ah)) (aH 4) (aL (sset 5 (aq 3 (ar c) (aa (af aC (ad 3) (ad 4)) (aa (ac (.int 1)) (aa (af aC (ao bK (aa (ad 2) ah)) (ac (.int 1))) ah))))) (aL (sset 6 (af oIx (ck (aa (ac (.str "")) (aa (af oCh (ac (.str "0123456789;- x")) (aq 3 (ar c) (aa (af aC (ad 3) (ad 4)) (aa (ac (.int 2)) (aa (ac (.int 14)) ah))))) ah))) (aq 3 (ar c) (aa (af aC (ad 3) (ad 4)) (aa (ac (.int 3)) (aa (ac (.int 2)) ah)))))) (sif (be (ap (aq 1 (bn c) (aa (af aC (af aC (cy (ad 2) cc (bR (ad 5))) (ad 6)) (cy (ad 2) (bR (af aC (ad 5) (aq 3 (ar c) (aa (af aC (ad 3) (ad 4)) (aa (ac (.int 4)) (aa (ac (.int 2)) ah)))))) cc)) ah)))) (bH (ac (.bl false))) aN)))) (aL (sif (be (ap (ao hU (aa (bI (bb (aq 0 (cx c) ah)) (aH 0) cn (aq 1 (bn c) (aa (ad 0) ah)) 1 []) ah)))) (bH (ac (.bl false))) aN) (bH (ao hU (aa (bI (bb (bz (aa (ac .non) (aa (ac (.int 3)) (aa (bz (aa (ac (.str "3")) ah)) (aa (ac (.bl true)) ah)))))) (aH 0) cn (aq 1 (bp c) (aa (ad 0) ah)) 1 []) ah)))))))))
noncomputable def m_law (c:CA) (K:Frag):List Int→Option D:=runL 7 K (F_law c K)
theorem ok_law:Ok P w mg base 8 T.law.toFb (spL K (m_law c K)):=fL ["_law_told_here", "_law_text", "_law_cell", "_law_k", "_law_at", "_law_sign"] fun _ _ _ _ _ _ hr nd=>
 (am (sA nd (du (kK T) hr (ae (aG aJ (duS (cj T) hr (pv 0) ai) (aG bV ai (duS (cj T) hr (pv 0) ai))) (d1 ai)))) (am (sA nd (iI (aG aJ (bG (d1 (eA c_str boot_str T.m_ (d1 (dx dv ai))))) (dc ["_law_one", "_law_other"] (cb (dx dv ai)) (fun nd _ _ _ _ _=>⟨(g2 (gn nd) (gn nd)),bJ,(aG aJ (aG aJ (eA c_str boot_str T.m_ (d1 dv)) aw) (eA c_str boot_str T.m_ (d1 dv)))⟩))))) (am (i0 (t_or (t_ne (du (iO T) hr (d1 (de_dn (nk T.j_ (eI T) hr (ae (dx dv ai) (d1 (dx dv ai))))))) dv hr) (bx (bX (du (d6 T) hr (d1 dv))))) (au (aW jg))) (am (sA nd (aG aJ (duS (cj T) hr (pv 0) ai) (aG bV ai (duS (cj T) hr (pv 0) ai)))) (am (sf (ir T.q_ ai) (gn nd) (am (sA nd (du (aP T) hr (ae (aG aJ dv dv) (ae ai (d1 (aG aJ (fJ T.d_ dv) ai)))))) (am (sA nd (dx (cP (ae aw (d1 (d_ch aw (du (aP T) hr (ae (aG aJ dv dv) (ae ai (d1 ai)))))))) (du (aP T) hr (ae (aG aJ dv dv) (ae ai (d1 ai)))))) (au (i0 (bx (bX (du (d6 T) hr (d1 (aG aJ (aG aJ (kz dv dS (dU dv)) dv) (kz dv (dU (aG aJ dv (du (aP T) hr (ae (aG aJ dv dv) (ae ai (d1 ai)))))) dS)))))) (au (aW jg))))))) (am (i0 (bx (bX (b_all T.i_ (dc ["_law_other"] (cb (du0 (lu T) hr)) (fun nd _ _ _ _ _=>⟨(gn nd),bJ,(du (d6 T) hr (d1 dv))⟩))))) (au (aW jg))) (au (aW (b_all T.i_ (dc ["_law_thing"] (cb (bG (ae iC (ae ai (ae (bG (d1 aw)) (d1 jg)))))) (fun nd _ _ _ _ _=>⟨(gn nd),bJ,(du (eY T) hr (d1 dv))⟩)))))))))))
end
end Pg
end
section
namespace Pg
open PySem PySem.Spec L2 Ew
variable (c:CA)
abbrev sd (d:D):Option E:=some (.sh d)
abbrev si (i:Int):Option E:=some (.sh (.int i))
theorem dB:big=100000:=rfl
@[simp] theorem io (k:DSt→Option Res) (δ:DSt):Res.loop k (.nx δ)=k δ:=rfl
@[simp] theorem loop_rt (k:DSt→Option Res) (r:R):Res.loop k (.rt r)=some (.rt r):=rfl
theorem cS {k:Nat} {F:FS} {ds:List D} {δ:DSt} {r:R} (h0:ds.map (fun d=>some (E.sh d))++List.replicate (k-ds.length) none=δ) (h:F δ=some (.rt r)) (hb:r.isBw=false):Ew.run k F ds=some r.view:=by
 unfold Ew.run
 rw [h0,h]
 simp [hb]
theorem dr {fi:DSt→Option (List D)} {g:GD} {t:DSt→Option Bool} {fe:FE} {m:Nat} {ix:List Nat} {δ:DSt} {items out:List D} (h1:fi δ=some items) (h2:items.length≤1000) (h3:bQ g t fe (dIn m ix δ) items=some out) :
  bI fi g t fe m ix δ=some (.fr out):=by
 unfold bI
 rw [h1]
 show (if items.length≤big then _ else _)=_
 rw [if_pos (by rw [dB];omega),h3]
 rfl
theorem call1 {m:List D→Option D} {f1:FE} {δ:DSt} {r1:R} {d:D} (h1:f1 δ=some r1) (hm:m [r1.view]=some d) (hb:r1.isBw=false∨d.flat=true):aq 1 m (aa f1 ah) δ=some (.sh d):=by
 simp only [ij,aK,gK,h1,Option.bind_some,ik,List.map_cons,List.map_nil,hm]
 rw [if_pos]
 exact ⟨rfl,hb.imp (fun h=>by simp [h]) id⟩
theorem call2 {m:List D→Option D} {f1 f2:FE} {δ:DSt} {r1 r2:R} {d:D} (h1:f1 δ=some r1) (h2:f2 δ=some r2) (hm:m [r1.view,r2.view]=some d) (hb:(r1.isBw=false∧r2.isBw=false)∨d.flat=true):aq 2 m (aa f1 (aa f2 ah)) δ=some (.sh d):=by
 simp only [ij,aK,gK,h1,h2,Option.bind_some,ik,List.map_cons,List.map_nil,hm]
 rw [if_pos]
 exact ⟨rfl,hb.imp (fun h=>by simp [h]) id⟩
theorem call3 {m:List D→Option D} {f1 f2 f3:FE} {δ:DSt} {r1 r2 r3:R} {d:D} (h1:f1 δ=some r1) (h2:f2 δ=some r2) (h3:f3 δ=some r3) (hm:m [r1.view,r2.view,r3.view]=some d) (hb:(r1.isBw=false∧r2.isBw=false∧r3.isBw=false)∨d.flat=true):aq 3 m (aa f1 (aa f2 (aa f3 ah))) δ=some (.sh d):=by
 simp only [ij,aK,gK,h1,h2,h3,Option.bind_some,ik,List.map_cons,List.map_nil,hm]
 rw [if_pos]
 exact ⟨rfl,hb.imp (fun h=>by simp [h]) id⟩
theorem cs1 {m:List D→Option D} {f1:FE} {δ:DSt} {a d:D} (h1:f1 δ=some (.sh a)) (hm:m [a]=some d):aq 1 m (aa f1 ah) δ=some (.sh d):=call1 h1 hm (.inl rfl)
theorem cs2 {m:List D→Option D} {f1 f2:FE} {δ:DSt} {a b d:D} (h1:f1 δ=some (.sh a)) (h2:f2 δ=some (.sh b)) (hm:m [a,b]=some d):aq 2 m (aa f1 (aa f2 ah)) δ=some (.sh d):=call2 h1 h2 hm (.inl ⟨rfl,rfl⟩)
theorem cN {o:D→D→Option R} {fa fb:FE} {δ:DSt} {a b:R} {x:Option R} (h1:fa δ=some a) (h2:fb δ=some b) (h:o a.view b.view=x):af o fa fb δ=x:=by
 rw [dbin_e,h1,h2];exact h
theorem bs {o:D→D→Option R} {fa fb:FE} {δ:DSt} {a b:D} {x:Option R} (h1:fa δ=some (.sh a)) (h2:fb δ=some (.sh b)) (h:o a b=x):af o fa fb δ=x:=cN h1 h2 h
theorem ret1 {f:FE} {δ:DSt} {r:R} (h:f δ=some r) (hb:r.isBw=false):bH f δ=some (.rt r):=by
 rw [sret_e,h];simp [hb]
theorem set1 {i:Nat} {f:FE} {δ δ':DSt} {r:R} {en:E} (h:f δ=some r) (he:r.ent=some en) (hd:δ.set i (some en)=δ'):sset i f δ=some (.nx δ'):=by
 rw [sset_e,h,Option.bind_some,he,Option.bind_some,hd]
theorem seq1 {F G:FS} {δ δ1:DSt} {x:Option Res} (h:F δ=some (.nx δ1)) (h2:G δ1=x):aL F G δ=x:=by
 rw [iE,h,Option.bind_some,thn_nx,h2]
theorem ej (xs ys:List D) (h:xs.length+ys.length≤1000):aC (.lst xs) (.lst ys)=some (.fr (xs++ys)):=by
 show (if xs.length+ys.length≤big then _ else _)=_
 rw [if_pos (by rw [dB];omega)]
theorem cut1 (ds:List D):cutD ds (some 1) none=ds.tail:=by
 unfold cutD HT.sIx
 cases ds with
 | nil=>simp
 | cons d ds=>
  simp
theorem skp {t:DSt→Option Bool} {F G:FS} {δ:DSt} {x:Option Res} (h:t δ=some false) (h2:G δ=x):aL (sif t F aN) G δ=x:=seq1 (δ1:=δ) (by rw [dH,h];rfl) h2
theorem stp {t:DSt→Option Bool} {d:D} {G:FS} {δ:DSt} (h:t δ=some true):aL (sif t (bH (ac d)) aN) G δ=some (.rt (.sh d)):=by rw [iE,dH,h];rfl
theorem not_t {t:DSt→Option Bool} {δ:DSt} {b:Bool} (h:t δ=some b):be t δ=some (!b):=by rw [jR,h];rfl
theorem eZ {f:FE} {δ:DSt} {b:Bool} (h:f δ=some (.sh (.bl b))):ap f δ=some b:=by rw [fv,h];rfl
theorem gS:∀ bs:List Bool,bls (bs.map .bl)=some bs
 | []=>rfl
 | b::bs=>by simp only [List.map_cons,bls,gS bs];rfl
abbrev Tie:=Int×Int
abbrev ET:Enc Tie:=Enc.int.par Enc.int
abbrev ay (t:Tie):D:=.tup [.int t.1,.int t.2]
def fF (n:Int) (T:List Tie):D:=.obj c.Web [("points",.int n),("pairs",.lst (T.map ay))]
abbrev sW (n:Int) (T:List Tie):Option E:=some (.sh (fF c n T))
theorem jq {A:Type} {a b:A}:List.lookup ("points" : Str) [("points",a),("pairs",b)]=some a:=rfl
theorem lk_pairs {A:Type} {a b:A}:List.lookup ("pairs" : Str) [("points",a),("pairs",b)]=some b:=rfl
theorem lk_ties {A:Type} {a b:A}:List.lookup ("ties" : Str) [("points",a),("pairs",b)]=none:=rfl
def dN (n:Int) (T:List Tie):Prop:=1≤n∧n≤8∧T.length≤14∧∀ t∈T,0≤t.1∧t.1<t.2∧t.2<n
theorem bM (i:Int):bi c [.int i]=some (.bl true):=by
 simp [bi,g9,aF,jQ,is_bool]
theorem ties_eq (n:Int) (T:List Tie):bL c [fF c n T]=some (.lst (T.map ay)):=by
 simp [bL,iM,fF,lk_pairs]
theorem jr {f:FE} {δ:DSt} {n:Int} {T:List Tie} (h:f δ=some (.sh (fF c n T))):ez c.Web "ties" 1 (bL c) f ah δ=some (.sh (.lst (T.map ay))):=by
 have:=ties_eq c n T
 unfold fF at this h
 simp [h,lk_ties,this]
theorem jY (p q:Int):(if q<p then q else p)=min p q:=by split <;> omega
theorem int_max (p q:Int):(if q>p then q else p)=max p q:=by split <;> omega
def tieB (p q:Int):Tie:=(min p q,max p q)
theorem all_true {f:DSt→Option (List R)} {δ:DSt} {α:Type} {xs:List α} (h:f δ=some [.fr (xs.map fun _=>D.bl true)]):ao hU f δ=some (.sh (.bl true)):=by
 rw [bS,h]
 simp only [Option.bind_some,view_fr]
 unfold hU
 have e:(xs.map fun _=>D.bl true)=(xs.map fun _=>true).map D.bl:=by rw [List.map_map];rfl
 rw [e]
 show (bls ((xs.map fun _=>true).map D.bl)).map _=_
 rw [gS]
 simp
theorem kM {α:Type} {xs:List α} {i:Int} (h0:0≤i):atI xs i=xs[i.toNat]?:=by
 obtain ⟨k,rfl⟩ : ∃ k:Nat,i=k:=⟨i.toNat,by omega⟩
 rw [atIn]
 rfl
theorem kN {n:Int} {t:Tie} (h:0≤t.1∧t.1<t.2∧t.2<n):bj c [ay t,.int n]=some (.bl true):=by
 have h1:=bM c t.1
 have h2:=bM c t.2
 have e1:(0:Int)≤t.1:=h.1
 have e2:t.1<t.2:=h.2.1
 have e3:t.2<n:=h.2.2
 simp [bj,dL,aF,cC,bK,dJ,eW,h1,h2,e1,e2,e3]
theorem kO {n:Int} {T:List Tie} (W:dN n T):br c [.int n,.lst (T.map ay)]=some [((("points" : Str)),D.int n),(("pairs" : Str),D.lst (T.map ay))]:=by
 obtain ⟨w1,w2,w3,w4⟩:=W
 refine unif_of fun p=>?_
 have b2:(2:Nat)≤big:=by decide
 have hb:T.length≤big:=by rw [dB];omega
 have hn:=bM c n
 have cm:=cmapN_of (aH 0) cn (ntup (fR (gZ (af oIx (ad 0) (ac (.int 0)))) (fR (gZ (af oIx (ad 0) (ac (.int 1)))) nanil))) (dIn 1 [] [some (.on p (.obj c.Web [(("points" : Str),D.int n)])),si n,sd (.lst (T.map ay))]) ay (fun _=>true) ay T (fun t _=>by
  refine ⟨_,rfl,rfl,fun _=>?_⟩
  simp [dIn,dJ,eW,b2])
 rw [List.filter_eq_self.2 (fun _ _=>rfl)] at cm
 have c1:=dr (fi:=bb (ad 2)) (g:=aH 0) (t:=cn) (fe:=aq 2 (bj c) (aa (ad 0) (aa (ad 1) ah))) (m:=1) (ix:=[1]) (δ:=[some (.on p (.obj c.Web [])),si n,sd (.lst (T.map ay))]) (items:=T.map ay) rfl (by simp;omega) (da _ _ _ _ ay (fun _=>true) (fun _=>D.bl true) T (fun t ht=>by
  refine ⟨_,rfl,rfl,fun _=>⟨.sh (.bl true),?_,rfl,rfl⟩⟩
  exact call2 (r1:=.sh (ay t)) (r2:=.sh (.int n)) rfl rfl (kN c (w4 t ht)) (.inl ⟨rfl,rfl⟩)))
 rw [List.filter_eq_self.2 (fun _ _=>rfl)] at c1
 have a1:=all_true (f:=aa (bI (bb (ad 2)) (aH 0) cn (aq 2 (bj c) (aa (ad 0) (aa (ad 1) ah))) 1 [1]) ah) (δ:=[some (.on p (.obj c.Web [])),si n,sd (.lst (T.map ay))]) (xs:=T) (by rw [aK,c1];rfl)
 have hF:ci c [some (.on p (.obj c.Web [])),si n,sd (.lst (T.map ay))]=some (.nx [some (.on p (.obj c.Web [(("points" : Str),D.int n),(("pairs" : Str),D.lst (T.map ay))])),si n,sd (.lst (T.map ay))]):=by
  refine seq1 (δ1:=[some (.on p (.obj c.Web [])),si n,sd (.lst (T.map ay))]) ?_ (seq1 (δ1:=[some (.on p (.obj c.Web [])),si n,sd (.lst (T.map ay))]) ?_ (seq1 (δ1:=[some (.on p (.obj c.Web [])),si n,sd (.lst (T.map ay))]) ?_ (seq1 (δ1:=[some (.on p (.obj c.Web [(("points" : Str),D.int n)])),si n,sd (.lst (T.map ay))]) ?_ ?_)))
  ·
   simp [hn,w1,w2]
  ·
   have:¬((14:Int)<(T.length:Int)):=by omega
   simp [aF,cL,this]
  ·
   rw [dH,jR,fv,a1];rfl
  ·
   simp
  ·
   have hlk:List.lookup ("pairs" : Str) [(("points" : Str),D.int n)]=none:=rfl
   simp [hlk,hb]
   erw [cm]
   rfl
 have e:runIN 3 c.Web (ci c) [.int n,.lst (T.map ay)] p=(match ci c [some (.on p (.obj c.Web [])),si n,sd (.lst (T.map ay))] with
  | some (.nx (some (.on a (.obj C' fs))::_))=>if a=p∧C'=c.Web then some fs else none
  | _=>none):=rfl
 rw [e,hF]
 simp
theorem kP {n:Int} {T:List Tie} (W:dN n T) {fr:DSt→Option (List R)} {δ:DSt} {r1 r2:R} (h:fr δ=some [r1,r2]) (h1:r1.view=.int n) (h2:r2.view=.lst (T.map ay)) (b1:r1.isBw=false) (b2:r2.isBw=false) :
  gt c.Web 2 (br c) fr δ=some (fF c n T):=by
 simp only [nmake_e,h,Option.bind_some,List.map_cons,List.map_nil,h1,h2,kO c W,noBw_cons,noBw_nil,b1,b2]
 simp [fF]
theorem oNeg_i (i:Int):oNeg (.int i)=some (.sh (.int (-i))):=rfl
theorem mulR {i j:Int} (h0:0≤j) (h1:j≤1000000):bo (.int i) (.int j)=some (.sh (.int (i*j))):=by
 unfold bo
 simp only
 rw [if_pos (.inr ⟨Int.lt_of_lt_of_le (by decide) h0,Int.lt_of_le_of_lt h1 (by decide)⟩)]
theorem mulL {i j:Int} (h0:0≤i) (h1:i≤1000000):bo (.int i) (.int j)=some (.sh (.int (i*j))):=by
 unfold bo
 simp only
 rw [if_pos (.inl ⟨Int.lt_of_lt_of_le (by decide) h0,Int.lt_of_le_of_lt h1 (by decide)⟩)]
theorem modP {i j:Int} (h:0<j):oMod (.int i) (.int j)=some (.sh (.int (i % j))):=by
 unfold oMod
 simp only
 rw [if_pos h]
def ff:List Int:=[1000003,1000033,1000037,1000039,1000081,1000099,1000117,1000121,1000133,1000151,1000159,1000171,1000183,1000187,1000193,1000199]
theorem draw_eq (cell:Int) (k:Nat) (hk:k<16) {many:Int} (hm:0<many):∃ r,ar c [.int cell,.int k,.int many]=some (.int r)∧0≤r∧r<many:=by
 obtain ⟨p,hp,hp0⟩ : ∃ p,ff[k]?=some p∧0<p:=by
  have:∀ p∈ff,0<p:=by decide
  exact ⟨ff[k]'(by simpa [ff] using hk),by simp [ff] at hk ⊢,this _ (List.getElem_mem _)⟩
 refine ⟨(cell*48271+(k:Int)*69621) % p % many,?_,Int.emod_nonneg _ (by omega),Int.emod_lt_of_pos _ hm⟩
 have b16:(16:Nat)≤big:=by decide
 have hs:sset 3 (ck (aa (ac (.int 1000003)) (aa (ac (.int 1000033)) (aa (ac (.int 1000037)) (aa (ac (.int 1000039)) (aa (ac (.int 1000081)) (aa (ac (.int 1000099)) (aa (ac (.int 1000117)) (aa (ac (.int 1000121)) (aa (ac (.int 1000133)) (aa (ac (.int 1000151)) (aa (ac (.int 1000159)) (aa (ac (.int 1000171)) (aa (ac (.int 1000183)) (aa (ac (.int 1000187)) (aa (ac (.int 1000193)) (aa (ac (.int 1000199)) ah))))))))))))))))) [si cell,si k,si many,none] =
   some (.nx [si cell,si k,si many,sd (.tup (ff.map .int))]):=by
  simp [b16,ff]
 refine cS (r:=.sh (.int _)) rfl (seq1 hs (ret1 ?_ rfl)) rfl
 refine cN (a:=.sh (.int ((cell*48271+(k:Int)*69621) % p))) (b:=.sh (.int many)) ?_ rfl (modP hm)
 refine cN (a:=.sh (.int (cell*48271+(k:Int)*69621))) (b:=.sh (.int p)) ?_ ?_ (modP hp0)
 ·
  refine cN (a:=.sh (.int (cell*48271))) (b:=.sh (.int ((k:Int)*69621))) ?_ ?_ rfl
  ·
   exact cN (a:=.sh (.int cell)) (b:=.sh (.int 48271)) rfl rfl (mulR (by omega) (by omega))
  ·
   exact cN (a:=.sh (.int k)) (b:=.sh (.int 69621)) rfl rfl (mulR (by omega) (by omega))
 ·
  refine cN (a:=.sh (.tup (ff.map .int))) (b:=.sh (.int (k:Int))) rfl ?_ ?_
  ·
   refine cN (a:=.sh (.int k)) (b:=.sh (.int 16)) rfl rfl ?_
   rw [show oMod (R.sh (D.int (k:Int))).view (R.sh (D.int 16)).view=_ from modP (by omega)]
   congr 3
   omega
  ·
   simp only [view_sh,oIx_t]
   rw [atIn,List.getElem?_map,hp]
   rfl
def Good (n:Int) (T:List Tie):Prop:=∀ t∈T,0≤t.1∧t.1<t.2∧t.2<n
theorem kQ {n p q:Int} (h1:0≤p) (h2:p<n) (h3:0≤q) (h4:q<n) (h5:p≠q):0≤(tieB p q).1∧(tieB p q).1<(tieB p q).2∧(tieB p q).2<n:=by
 unfold tieB
 simp only
 omega
theorem jt {n:Int} {T:List Tie} {t:Tie} (h:Good n T) (ht:0≤t.1∧t.1<t.2∧t.2<n):Good n (T++[t]):=by
 intro u hu
 simp at hu
 rcases hu with hu | rfl
 ·
  exact h u hu
 ·
  exact ht
theorem iQ {n:Int} {B:FS} {e0 e1 e2 e3 e5 e9:Option E} (ok:D→Prop)
  (hB:∀ d (T:List Tie) (x7 x8:Option E),ok d→Good n T→T.length≤900→∃ (T':List Tie) (y7 y8:Option E),B [e0,e1,e2,e3,some (.ow (T.map ay)),e5,sd d,x7,x8,e9]=some (.nx [e0,e1,e2,e3,some (.ow (T'.map ay)),e5,sd d,y7,y8,e9])∧Good n T'∧T'.length≤T.length+1) :
  ∀ (ds:List D) (T:List Tie) (x6 x7 x8:Option E),(∀ d∈ds,ok d)→Good n T→T.length+ds.length≤900→
  ∃ (T':List Tie) (y6 y7 y8:Option E),cY (aH 6) B ds [e0,e1,e2,e3,some (.ow (T.map ay)),e5,x6,x7,x8,e9]=some (.nx [e0,e1,e2,e3,some (.ow (T'.map ay)),e5,y6,y7,y8,e9])∧Good n T'∧T'.length≤T.length+ds.length
 | [],T,x6,x7,x8,_,hT,_=>⟨T,x6,x7,x8,rfl,hT,by simp⟩
 | d::ds,T,x6,x7,x8,hd,hT,hl=>by
  simp at hl
  obtain ⟨T1,y7,y8,h1,h2,h3⟩:=hB d T x7 x8 (hd d (by simp)) hT (by omega)
  obtain ⟨T',z6,z7,z8,i1,i2,i3⟩:=iQ ok hB ds T1 (some (.sh d)) y7 y8 (fun d' h=>hd d' (by simp [h])) h2 (by omega)
  refine ⟨T',z6,z7,z8,?_,i2,by simp;omega⟩
  unfold cY
  have hg:aH 6 d [e0,e1,e2,e3,some (.ow (T.map ay)),e5,x6,x7,x8,e9]=some [e0,e1,e2,e3,some (.ow (T.map ay)),e5,sd d,x7,x8,e9]:=rfl
  rw [hg]
  simp only [Option.bind_some]
  rw [h1]
  simp only [Option.bind_some,io]
  exact i1
theorem turn_ne {n t k:Int} (h1:2≤n) (h2:n≤8) (ht:t=1∨((t=3∨t=5∨t=7)∧n % t≠0)):k*t % n≠(k+1)*t % n:=by
 have hn:n=2∨n=3∨n=4∨n=5∨n=6∨n=7∨n=8:=by omega
 rcases ht with rfl | ⟨rfl | rfl | rfl,hm⟩ <;> rcases hn with rfl | rfl | rfl | rfl | rfl | rfl | rfl <;> omega
theorem app_tie {n p q:Int} {T:List Tie} {e0 e1 e2 e3 e5 e6 e9:Option E} (hl:T.length≤900) :
  hV 4 (ck (aa (ba dF (aa (ad 7) (aa (ad 8) ah))) (aa (ba fH (aa (ad 7) (aa (ad 8) ah))) ah))) [e0,e1,e2,e3,some (.ow (T.map ay)),e5,e6,si p,si q,e9] =
   some (.nx [e0,e1,e2,e3,some (.ow ((T++[tieB p q]).map ay)),e5,e6,si p,si q,e9]):=by
 have b2:(2:Nat)≤big:=by decide
 have b:T.length≤big:=by rw [dB];omega
 simp [hV,b2,b,tieB,←jY,←int_max]
theorem rngE {f:FE} {δ:DSt} {j:Int} (h:f δ=some (.sh (.int j))) (h2:j≤1000000) (h1:-1000000≤j):(gk (aa f ah)) δ=some ((List.range j.toNat).map fun k=>D.int (0+((k:Nat):Int))):=by
 have hc:-(2 ^ 62:Int)≤j∧j<2 ^ 62:=⟨Int.le_trans (by decide) h1,Int.lt_of_le_of_lt h2 (by decide)⟩
 unfold gk
 simp only [aK,gK,h,Option.bind_some]
 rw [if_pos hc]
theorem cut14 (ds:List D):cutD ds none (some 14)=ds.take 14:=by
 unfold cutD HT.sIx
 simp
def eJ (n:Int) (T:List Tie):D:=.tup [.int n,.lst (T.map ay)]
abbrev sT (n:Int) (T:List Tie):Option E:=some (.sh (eJ n T))
theorem iR {ks:List Int} {r:Int} (h0:0≤r) (h1:r<(ks.length:Int)) (p:Int→Prop) (hp:∀ k∈ks,p k):∃ v,oIx (.tup (ks.map .int)) (.int r)=some (.sh (.int v))∧p v:=by
 have hr:r.toNat<ks.length:=by omega
 refine ⟨ks[r.toNat],?_,hp _ (List.getElem_mem _)⟩
 rw [oIx_t,kM h0,List.getElem?_map,List.getElem?_eq_getElem hr]
 rfl
theorem eK {fa fm:FE} {δ:DSt} {cell many:Int} (k:Int) (hk:0≤k∧k<16) (h1:fa δ=some (.sh (.int cell))) (h2:fm δ=some (.sh (.int many))) (hm:0<many) :
  ∃ r,aq 3 (ar c) (aa fa (aa (ac (.int k)) (aa fm ah))) δ=some (.sh (.int r))∧0≤r∧r<many:=by
 obtain ⟨r,e,r0,r1⟩:=draw_eq c cell k.toNat (by omega) hm
 rw [show ((k.toNat:Nat):Int)=k by omega] at e
 exact ⟨r,call3 (r1:=.sh (.int cell)) (r2:=.sh (.int k)) (r3:=.sh (.int many)) h1 rfl h2 e (.inl ⟨rfl,rfl,rfl⟩),r0,r1⟩
theorem told_eq (z y:Int) (hl:1≤y) (hl2:y≤8):∃ n T,fU c [.int z,.int y]=some (eJ n T)∧dN n T∧y≤n:=by
 have b8:(8:Nat)≤big:=by decide
 have b4:(4:Nat)≤big:=by decide
 have b2:(2:Nat)≤big:=by decide
 obtain ⟨r1,d1,p1,q1⟩:=eK c (fa:=ad 0) (fm:=ac (.int 8)) (δ:=[si z,si y,none,none,none,none,none,none,none,none]) (cell:=z) (many:=8) 1 (by omega) rfl rfl (by omega)
 obtain ⟨v1,x1,y1⟩:=iR (ks:=[4,5,3,6,2,7,1,8]) p1 (by simpa using q1) (fun v=>1≤v∧v≤8) (by decide)
 have s1:sset 2 (ba fH (aa (ad 1) (aa (af oIx (ck (aa (ac (.int 4)) (aa (ac (.int 5)) (aa (ac (.int 3)) (aa (ac (.int 6)) (aa (ac (.int 2)) (aa (ac (.int 7)) (aa (ac (.int 1)) (aa (ac (.int 8)) ah))))))))) (aq 3 (ar c) (aa (ad 0) (aa (ac (.int 1)) (aa (ac (.int 8)) ah))))) ah))) [si z,si y,none,none,none,none,none,none,none,none] =
   some (.nx [si z,si y,si (max y v1),none,none,none,none,none,none,none]):=by
  have hx:af oIx (ck (aa (ac (.int 4)) (aa (ac (.int 5)) (aa (ac (.int 3)) (aa (ac (.int 6)) (aa (ac (.int 2)) (aa (ac (.int 7)) (aa (ac (.int 1)) (aa (ac (.int 8)) ah))))))))) (aq 3 (ar c) (aa (ad 0) (aa (ac (.int 1)) (aa (ac (.int 8)) ah)))) [si z,si y,none,none,none,none,none,none,none,none]=some (.sh (.int v1)):=cN (a:=.sh (.tup [.int 4,.int 5,.int 3,.int 6,.int 2,.int 7,.int 1,.int 8])) (by simp [b8]) d1 x1
  refine set1 (r:=.sh (.int (max y v1))) ?_ rfl rfl
  rw [dcall2_e,aK,aK,hx]
  simp [←int_max]
 generalize hn:max y v1=n at s1
 have n1:1≤n:=by omega
 have n8:n≤8:=by omega
 obtain ⟨x,d2,k0,k4⟩:=eK c (fa:=ad 0) (fm:=ac (.int 4)) (δ:=[si z,si y,si n,none,none,none,none,none,none,none]) (cell:=z) (many:=4) 2 (by omega) rfl rfl (by omega)
 have s2:=set1 (i:=3) d2 rfl (δ':=[si z,si y,si n,si x,none,none,none,none,none,none]) rfl
 have s3:sset 4 (bz ah) [si z,si y,si n,si x,none,none,none,none,none,none]=some (.nx [si z,si y,si n,si x,some (.ow []),none,none,none,none,none]):=by simp
 obtain ⟨r3,d3,p3,q3⟩:=eK c (fa:=ad 0) (fm:=ac (.int 4)) (δ:=[si z,si y,si n,si x,some (.ow []),none,none,none,none,none]) (cell:=z) (many:=4) 3 (by omega) rfl rfl (by omega)
 obtain ⟨t0,x3,y3⟩:=iR (ks:=[1,3,5,7]) p3 (by simpa using q3) (fun v=>v=1∨v=3∨v=5∨v=7) (by decide)
 have s4:sset 5 (af oIx (ck (aa (ac (.int 1)) (aa (ac (.int 3)) (aa (ac (.int 5)) (aa (ac (.int 7)) ah))))) (aq 3 (ar c) (aa (ad 0) (aa (ac (.int 3)) (aa (ac (.int 4)) ah))))) [si z,si y,si n,si x,some (.ow []),none,none,none,none,none] =
   some (.nx [si z,si y,si n,si x,some (.ow []),si t0,none,none,none,none]):=set1 (cN (a:=.sh (.tup [.int 1,.int 3,.int 5,.int 7])) (by simp [b4]) d3 x3) rfl rfl
 have t0p:0<t0:=by omega
 obtain ⟨t,s5,ht⟩ : ∃ t,sif ((gg (ap (af oEq (af oMod (ad 2) (ad 5)) (ac (.int 0)))) (ap (af oGt (ad 5) (ac (.int 1)))))) (sset 5 (ac (.int 1))) aN [si z,si y,si n,si x,some (.ow []),si t0,none,none,none,none] =
   some (.nx [si z,si y,si n,si x,some (.ow []),si t,none,none,none,none])∧(t=1∨((t=3∨t=5∨t=7)∧n % t≠0)):=by
  by_cases h1:n % t0=0
  ·
   by_cases h2:1<t0
   ·
    exact ⟨1,by simp [modP t0p,h1,h2],.inl rfl⟩
   ·
    exact ⟨t0,by simp [modP t0p,h1,h2],.inl (by omega)⟩
  ·
   refine ⟨t0,by simp [modP t0p,h1],?_⟩
   rcases y3 with rfl | h
   ·
    exact .inl rfl
   ·
    exact .inr ⟨h,h1⟩
 have tp:0<t∧t≤7:=by omega
 obtain ⟨T1,a6,a7,a8,s6,g1,l1⟩ : ∃ (T1:List Tie) (a6 a7 a8:Option E),sif ((gg (ap (af oGt (ad 3) (ac (.int 0)))) (ap (af oGt (ad 2) (ac (.int 1)))))) (eP (gk (aa (af aC (af oSub (ad 2) (ac (.int 1))) (ba dF (aa (af oSub (ad 3) (ac (.int 1))) (aa (ac (.int 1)) ah)))) ah)) (aH 6) (aL (jh 7 8 (af oMod (af bo (ad 6) (ad 5)) (ad 2)) (af oMod (af bo (af aC (ad 6) (ac (.int 1))) (ad 5)) (ad 2))) (hV 4 (ck (aa (ba dF (aa (ad 7) (aa (ad 8) ah))) (aa (ba fH (aa (ad 7) (aa (ad 8) ah))) ah)))))) aN
   [si z,si y,si n,si x,some (.ow []),si t,none,none,none,none] =
   some (.nx [si z,si y,si n,si x,some (.ow (T1.map ay)),si t,a6,a7,a8,none])∧Good n T1∧T1.length≤100:=by
  by_cases h1:0<x
  ·
   by_cases h2:1<n
   ·
    have hf:(af aC (af oSub (ad 2) (ac (.int 1))) (ba dF (aa (af oSub (ad 3) (ac (.int 1))) (aa (ac (.int 1)) ah)))) [si z,si y,si n,si x,some (.ow []),si t,none,none,none,none]=some (.sh (.int (n-1+min (x-1) 1))):=by
     simp [←jY]
    have hr:=rngE hf (by omega) (by omega)
    obtain ⟨T',y6,y7,y8,i1,i2,i3⟩:=iQ (n:=n) (e0:=si z) (e1:=si y) (e2:=si n) (e3:=si x) (e5:=si t) (e9:=none)
     (B:=aL (jh 7 8 (af oMod (af bo (ad 6) (ad 5)) (ad 2)) (af oMod (af bo (af aC (ad 6) (ac (.int 1))) (ad 5)) (ad 2))) (hV 4 (ck (aa (ba dF (aa (ad 7) (aa (ad 8) ah))) (aa (ba fH (aa (ad 7) (aa (ad 8) ah))) ah)))))
     (fun d=>∃ k:Int,d=.int k) (by
      rintro d T x7 x8 ⟨k,rfl⟩ hT hTl
      refine ⟨T++[tieB (k*t % n) ((k+1)*t % n)],_,_,seq1 (δ1:=[si z,si y,si n,si x,some (.ow (T.map ay)),si t,si k,si (k*t % n),si ((k+1)*t % n),none]) ?_ (app_tie (n:=n) hTl),?_,by simp⟩
      ·
       have m1:bo (.int k) (.int t)=some (.sh (.int (k*t))):=mulR (by omega) (by omega)
       have m2:bo (.int (k+1)) (.int t)=some (.sh (.int ((k+1)*t))):=mulR (by omega) (by omega)
       have m3:∀ i:Int,oMod (.int i) (.int n)=some (.sh (.int (i % n))):=fun i=>modP (by omega)
       simp [jh,m1,m2,m3]
      ·
       refine jt hT (kQ (Int.emod_nonneg _ (by omega)) (Int.emod_lt_of_pos _ (by omega)) (Int.emod_nonneg _ (by omega)) (Int.emod_lt_of_pos _ (by omega)) (turn_ne (by omega) n8 ht)))
     ((List.range (n-1+min (x-1) 1).toNat).map fun k=>D.int (0+((k:Nat):Int))) [] none none none (by
      intro d hd
      obtain ⟨k,_,rfl⟩:=List.mem_map.1 hd
      exact ⟨_,rfl⟩) (by intro u hu;simp at hu) (by simp;omega)
    refine ⟨T',y6,y7,y8,?_,i2,by simp at i3;omega⟩
    rw [dH]
    have ht:(gg (ap (af oGt (ad 3) (ac (.int 0)))) (ap (af oGt (ad 2) (ac (.int 1))))) [si z,si y,si n,si x,some (.ow []),si t,none,none,none,none]=some true:=by simp [h1,h2]
    rw [ht]
    simp only [Option.bind_some]
    rw [if_pos trivial]
    unfold eP
    rw [hr]
    exact i1
   ·
    exact ⟨[],none,none,none,by simp [h1,h2],by intro u hu;simp at hu,by simp⟩
  ·
   exact ⟨[],none,none,none,by simp [h1],by intro u hu;simp at hu,by simp⟩
 obtain ⟨v9,x9,y9⟩:=iR (ks:=[9,4]) (r:=min x 1) (by omega) (by simp;omega) (fun v=>0<v∧v≤15) (by decide)
 have s7:sset 9 (af oIx (ck (aa (ac (.int 9)) (aa (ac (.int 4)) ah))) (ba dF (aa (ad 3) (aa (ac (.int 1)) ah)))) [si z,si y,si n,si x,some (.ow (T1.map ay)),si t,a6,a7,a8,none] =
   some (.nx [si z,si y,si n,si x,some (.ow (T1.map ay)),si t,a6,a7,a8,si v9]):=set1 (cN (a:=.sh (.tup [.int 9,.int 4])) (b:=.sh (.int (min x 1))) (by simp [b2]) (by simp [←jY]) x9) rfl rfl
 obtain ⟨r8,d8,p8,q8⟩:=eK c (fa:=ad 0) (fm:=ac (.int 4)) (δ:=[si z,si y,si n,si x,some (.ow (T1.map ay)),si t,a6,a7,a8,si v9]) (cell:=z) (many:=4) 8 (by omega) rfl rfl (by omega)
 obtain ⟨most,s8,hmost⟩ : ∃ most,sif (ap (af oEq (aq 3 (ar c) (aa (ad 0) (aa (ac (.int 8)) (aa (ac (.int 4)) ah)))) (ac (.int 0)))) (sset 9 (ac (.int 15))) aN [si z,si y,si n,si x,some (.ow (T1.map ay)),si t,a6,a7,a8,si v9] =
   some (.nx [si z,si y,si n,si x,some (.ow (T1.map ay)),si t,a6,a7,a8,si most])∧0<most∧most≤15:=by
  have ht:(ap (af oEq (aq 3 (ar c) (aa (ad 0) (aa (ac (.int 8)) (aa (ac (.int 4)) ah)))) (ac (.int 0)))) [si z,si y,si n,si x,some (.ow (T1.map ay)),si t,a6,a7,a8,si v9]=some (decide (r8=0)):=by
   rw [fv,cN (a:=.sh (.int r8)) (b:=.sh (.int 0)) d8 rfl rfl]
   simp
  rw [dH,ht]
  by_cases h0:r8=0
  ·
   exact ⟨15,by simp [h0],by omega,by omega⟩
  ·
   exact ⟨v9,by simp [h0],y9.1,y9.2⟩
 obtain ⟨cnt,d9,c0,c15⟩:=eK c (fa:=ad 0) (fm:=ad 9) (δ:=[si z,si y,si n,si x,some (.ow (T1.map ay)),si t,a6,a7,a8,si most]) (cell:=z) (many:=most) 4 (by omega) rfl rfl (by omega)
 have hr2:=rngE d9 (by omega) (by omega)
 obtain ⟨T2,y6,y7,y8,i1,g2,i3⟩:=iQ (n:=n) (e0:=si z) (e1:=si y) (e2:=si n) (e3:=si x) (e5:=si t) (e9:=si most)
  (B:=aL (sset 7 (aq 3 (ar c) (aa (af bo (af aC (ad 0) (af bo (ac (.int 977)) (ad 6))) (af aC (ad 6) (ac (.int 3)))) (aa (ac (.int 5)) (aa (ad 2) ah))))) (aL (sset 8 (aq 3 (ar c) (aa (af bo (af aC (ad 0) (af bo (ac (.int 31)) (ad 6))) (af aC (ad 6) (ac (.int 5)))) (aa (ac (.int 6)) (aa (ad 2) ah))))) (sif (ap (af oNe (ad 7) (ad 8))) (hV 4 (ck (aa (ba dF (aa (ad 7) (aa (ad 8) ah))) (aa (ba fH (aa (ad 7) (aa (ad 8) ah))) ah)))) aN)))
  (fun d=>∃ k:Int,d=.int k∧0≤k∧k≤100) (by
   rintro d T x7 x8 ⟨k,rfl,kk0,kk1⟩ hT hTl
   have m1:bo (.int 977) (.int k)=some (.sh (.int (977*k))):=mulL (by omega) (by omega)
   have m2:bo (.int 31) (.int k)=some (.sh (.int (31*k))):=mulL (by omega) (by omega)
   have m3:∀ i:Int,bo (.int i) (.int (k+3))=some (.sh (.int (i*(k+3)))):=fun i=>mulR (by omega) (by omega)
   have m4:∀ i:Int,bo (.int i) (.int (k+5))=some (.sh (.int (i*(k+5)))):=fun i=>mulR (by omega) (by omega)
   obtain ⟨u,du,u0,u1⟩:=eK c (fa:=af bo (af aC (ad 0) (af bo (ac (.int 977)) (ad 6))) (af aC (ad 6) (ac (.int 3)))) (fm:=ad 2) (δ:=[si z,si y,si n,si x,some (.ow (T.map ay)),si t,si k,x7,x8,si most]) (cell:=(z+977*k)*(k+3)) (many:=n) 5 (by omega) (by simp [m1,m3]) rfl (by omega)
   obtain ⟨v,dv,v0,v1⟩:=eK c (fa:=af bo (af aC (ad 0) (af bo (ac (.int 31)) (ad 6))) (af aC (ad 6) (ac (.int 5)))) (fm:=ad 2) (δ:=[si z,si y,si n,si x,some (.ow (T.map ay)),si t,si k,si u,x8,si most]) (cell:=(z+31*k)*(k+5)) (many:=n) 6 (by omega) (by simp [m2,m4]) rfl (by omega)
   by_cases huv:u=v
   ·
    refine ⟨T,si u,si v,seq1 (set1 du rfl rfl) (seq1 (set1 dv rfl rfl) ?_),hT,by omega⟩
    show sif _ _ _ [si z,si y,si n,si x,some (.ow (T.map ay)),si t,si k,si u,si v,si most]=_
    simp [huv]
   ·
    refine ⟨T++[tieB u v],si u,si v,seq1 (set1 du rfl rfl) (seq1 (set1 dv rfl rfl) ?_),jt hT (kQ u0 u1 v0 v1 huv),by simp⟩
    show sif _ _ _ [si z,si y,si n,si x,some (.ow (T.map ay)),si t,si k,si u,si v,si most]=_
    rw [dH]
    have ht:(ap (af oNe (ad 7) (ad 8))) [si z,si y,si n,si x,some (.ow (T.map ay)),si t,si k,si u,si v,si most]=some true:=by simp [huv]
    rw [ht]
    exact app_tie (n:=n) hTl)
  ((List.range cnt.toNat).map fun k=>D.int (0+((k:Nat):Int))) T1 a6 a7 a8 (by
   intro d hd
   obtain ⟨k,hk,rfl⟩:=List.mem_map.1 hd
   rw [List.mem_range] at hk
   exact ⟨_,rfl,by omega,by omega⟩) g1 (by simp;omega)
 obtain ⟨r7,d7,_,_⟩:=eK c (fa:=ad 0) (fm:=ac (.int 2)) (δ:=[si z,si y,si n,si x,some (.ow (T2.map ay)),si t,y6,y7,y8,si most]) (cell:=z) (many:=2) 7 (by omega) rfl rfl (by omega)
 obtain ⟨T3,s10,g3⟩ : ∃ T3:List Tie,sif (ap (af oEq (aq 3 (ar c) (aa (ad 0) (aa (ac (.int 7)) (aa (ac (.int 2)) ah)))) (ac (.int 0)))) (sset 4 (drev (ad 4) (dun oNeg (ac (.int 1))))) aN [si z,si y,si n,si x,some (.ow (T2.map ay)),si t,y6,y7,y8,si most] =
   some (.nx [si z,si y,si n,si x,some (.ow (T3.map ay)),si t,y6,y7,y8,si most])∧Good n T3:=by
  have ht:(ap (af oEq (aq 3 (ar c) (aa (ad 0) (aa (ac (.int 7)) (aa (ac (.int 2)) ah)))) (ac (.int 0)))) [si z,si y,si n,si x,some (.ow (T2.map ay)),si t,y6,y7,y8,si most]=some (decide (r7=0)):=by
   rw [fv,cN (a:=.sh (.int r7)) (b:=.sh (.int 0)) d7 rfl rfl]
   simp
  rw [dH,ht]
  by_cases h0:r7=0
  ·
   refine ⟨T2.reverse,?_,fun u hu=>g2 u (by simpa using hu)⟩
   simp [h0,drev,oNeg_i]
  ·
   exact ⟨T2,by simp [h0],g2⟩
 refine ⟨n,T3.take 14,?_,⟨n1,n8,by simp;omega,fun u hu=>g3 u (List.mem_of_mem_take hu)⟩,by omega⟩
 refine cS (r:=.sh (eJ n (T3.take 14))) rfl (seq1 s1 (seq1 s2 (seq1 s3 (seq1 s4 (seq1 s5 (seq1 s6 (seq1 s7 (seq1 s8 (seq1 (δ1:=[si z,si y,si n,si x,some (.ow (T2.map ay)),si t,y6,y7,y8,si most]) ?_ (seq1 s10 ?_)))))))))) rfl
 ·
  show eP _ _ _ [si z,si y,si n,si x,some (.ow (T1.map ay)),si t,a6,a7,a8,si most]=_
  unfold eP
  rw [hr2]
  exact i1
 ·
  simp [bY,bR,cc,cut14,b2,eJ]
theorem scr_0 (K:Frag) (ns:List Int) (r:DSt):eB K 0 (some (.scr K ns)::r)=some ns:=by
 unfold eB
 simp
theorem fV (K:Frag) (ns:List Int) {k:Int} (hk:0≤k):∃ v,aT c K ns k=some v:=by
 unfold aT runS
 show ∃ v,(match bB c K [some (.scr K ns),si k] with | some (.rt (.sh (.int j)))=>some j | _=>none)=some v
 by_cases h:k<(ns.length:Int)
 ·
  have hk2:k.toNat<ns.length:=by omega
  refine ⟨ns[k.toNat],?_⟩
  have:bB c K [some (.scr K ns),si k]=some (.rt (.sh (.int (ns[k.toNat])))):=by
   simp [bB,dlenS,dixS,scr_0,h,kM hk,List.getElem?_eq_getElem hk2]
  rw [this]
 ·
  refine ⟨0,?_⟩
  have:bB c K [some (.scr K ns),si k]=some (.rt (.sh (.int 0))):=by
   simp [bB,dlenS,scr_0,h]
  rw [this]
theorem eu {K:Frag} {ns:List Int} {r:DSt} {f:FE} {k v:Int} (h:f (some (.scr K ns)::r)=some (.sh (.int k))) (hv:aT c K ns k=some v):dX K 0 (aT c K) f (some (.scr K ns)::r)=some (.sh (.int v)):=by
 unfold dX
 rw [h]
 simp [scr_0,hv]
theorem told_0 {f:FE} {δ:DSt} {n:Int} {T:List Tie} (h:f δ=some (.sh (eJ n T))):af oIx f (ac (.int 0)) δ=some (.sh (.int n)):=cN h rfl (by simp [eJ,dJ])
theorem told_1 {f:FE} {δ:DSt} {n:Int} {T:List Tie} (h:f δ=some (.sh (eJ n T))):af oIx f (ac (.int 1)) δ=some (.sh (.lst (T.map ay))):=cN h rfl (by simp [eJ,eW])
end Pg
end
section
namespace Tx
open PySem Ew
theorem ju (x y:Str):aD x y=Txt.split x y:=by
 unfold aD Txt.split
 by_cases h1:(decide (x.length<y.length)||decide (Builtin.Str.strKind x<Builtin.Str.strKind y))=true
 ·
  rw [if_pos (.inl h1),if_pos h1]
 ·
  rw [if_neg h1]
  by_cases h2:(Builtin.Str.occurrences x y 0 x.length (x.length+1)).isEmpty=true
  ·
   rw [if_pos (.inr h2),if_pos h2]
  ·
   rw [if_neg (by intro z;rcases z with z | z;exact h1 z;exact h2 z),if_neg h2]
theorem join_split (x y:Str):Str.join y (aD x y)=x:=by rw [ju];exact StrLaws.join_split x y
theorem glueS_eq (y:Str) (l:List Str):cR y l=Str.join y l:=by
 unfold cR
 split
 ·
  rfl
 ·
  exact StrLaws.glued_eq_join y l
def dg (k:Nat):Str:=⟨#[48+k]⟩
theorem split_tie:∀ a:Fin 10,∀ b:Fin 10,aD ⟨#[48+a.val,45,48+b.val]⟩ "-" = [dg a.val,dg b.val]:=by decide +kernel
theorem iS (x y:Str):∃ p r,aD x y=p::r:=by
 rw [ju]
 unfold Txt.split
 split
 ·
  exact ⟨_,_,rfl⟩
 ·
  split
  ·
   exact ⟨_,_,rfl⟩
  ·
   rw [StrLaws.partsBetween_eq]
   exact StrLaws.partsFrom_ne _ _ _ _
theorem join_cons (y p q:Str) (r:List Str):Str.join y (p::q::r)=p++y++Str.join y (q::r):=rfl
theorem join_one (y p:Str):Str.join y [p]=p:=rfl
theorem kR (y:Str) (hy:1≤y.length):∀ (p:Str) (r:List Str),(p::r).length≤(Str.join y (p::r)).length+1
 | p,[]=>by simp
 | p,q::r=>by
  have:=kR y hy q r
  rw [join_cons,Str.length_append,Str.length_append]
  simp only [List.length_cons] at this ⊢
  omega
theorem split_len (x y:Str) (hy:1≤y.length):(aD x y).length≤x.length+1:=by
 obtain ⟨p,r,e⟩:=iS x y
 have:=kR y hy p r
 rw [←e,join_split] at this
 exact this
theorem kS (y:Str):∀ (p:Str) (r:List Str),∀ z∈p::r,z.length≤(Str.join y (p::r)).length
 | p,[],z,hz=>by
  cases (List.mem_singleton.mp hz)
  exact Nat.le_refl _
 | p,q::r,z,hz=>by
  rw [join_cons,Str.length_append,Str.length_append]
  rcases List.mem_cons.mp hz with rfl | hz
  ·
   omega
  ·
   have:=kS y q r z hz
   omega
theorem ey (x y:Str):∀ z∈aD x y,z.length≤x.length:=by
 obtain ⟨p,r,e⟩:=iS x y
 have:=kS y p r
 rw [←e,join_split] at this
 exact this
end Tx
end
section
namespace Pg
open PySem PySem.Spec L2 Ew Tx
variable (c:CA)
theorem dig_eq:aO=(List.range 10).map dg:=by decide +kernel
def dv' (z:Str):Option Nat:=if z∈aO then some (aO.idxOf z) else none
theorem dig_mem:∀ k:Fin 10,aO.idxOf (dg k.val)=k.val:=by decide +kernel
theorem dv_dg {k:Nat} (h:k<10):dv' (dg k)=some k:=by
 unfold dv'
 have m:dg k∈aO:=by rw [dig_eq];exact List.mem_map.mpr ⟨k,by simp [h],rfl⟩
 rw [if_pos m]
 exact congrArg some (dig_mem ⟨k,h⟩)
theorem jZ {z:Str} {k:Nat} (h:dv' z=some k):k<10∧z=dg k:=by
 unfold dv' at h
 by_cases m:z∈aO
 ·
  rw [if_pos m] at h
  cases h
  rw [dig_eq] at m
  obtain ⟨j,hj,rfl⟩:=List.mem_map.mp m
  have hj:j<10:=by simpa using hj
  have:=dig_mem ⟨j,hj⟩
  simp only at this
  rw [this]
  exact ⟨hj,rfl⟩
 ·
  rw [if_neg m] at h;cases h
theorem inK_e {δ:DSt} {z:Str} {f:FE} (h:f δ=some (.sh (.str z))):ap (dinK true aO f) δ=some (dv' z).isNone:=by
 rw [fv]
 unfold dinK dv'
 rw [h]
 by_cases m:z∈aO <;> simp [m]
theorem ixK_e {δ:DSt} {z:Str} {k:Nat} {f:FE} (h:f δ=some (.sh (.str z))) (hk:dv' z=some k):dixK aO f δ=some (.sh (.int (k:Int))):=by
 unfold dixK
 unfold dv' at hk
 rw [h]
 by_cases m:z∈aO
 ·
  rw [if_pos m] at hk
  cases hk
  simp [m]
 ·
  rw [if_neg m] at hk;cases hk
theorem iT {z:Str} {k:Nat} (h:dv' z=some k):aS c [.str z]=some (.int (k:Int)):=by
 refine cS (r:=.sh (.int (k:Int))) rfl ?_ rfl
 refine skp ?_ (ret1 (ixK_e rfl h) rfl)
 rw [inK_e (f:=ad 0) (z:=z) rfl,h];rfl
theorem num_x {z:Str} (h:dv' z=none):aU c [.str z]=some c.BadText:=by
 unfold aU gO xif
 show (ap (dinK true aO (ad 0)) [sd (.str z)]).bind _=_
 rw [inK_e (f:=ad 0) (z:=z) rfl,h];rfl
theorem j0 {z:Str} {k:Nat} (h:dv' z=some k):aU c [.str z]=none:=by
 unfold aU gO xif
 show (ap (dinK true aO (ad 0)) [sd (.str z)]).bind _=_
 rw [inK_e (f:=ad 0) (z:=z) rfl,h];rfl
def rt (p:Str):Option Tie:=match aD p "-" with
 | [u,v]=>(dv' u).bind fun a=>(dv' v).bind fun b=>some ((a:Int),(b:Int))
 | _=>none
theorem kT {y:Str} {f:FE} {δ:DSt} {x:Str} (h:f δ=some (.sh (.str x))) (hx:x.length≤900) (hy:1≤y.length):cf y f δ=some (.fr ((aD x y).map .str)):=by
 have:=split_len x y hy
 unfold cf
 rw [h]
 show (if x.length≤1000∧(aD x y).length≤1000 then _ else _)=_
 rw [if_pos ⟨by omega,by omega⟩]
theorem fg {m:List D→Option Addr} {f:FE} {δ:DSt} {d:D} (h:f δ=some (.sh d)):aY 1 m (aa f ah) δ=m [d]:=by
 unfold aY
 rw [aK,h]
 simp
section
variable {p u v:Str}
theorem gT (hp:p.length≤900):sset 1 (cf "-" (ad 0)) [sd (.str p),none]=some (.nx [sd (.str p),some (.ow ((aD p "-").map .str))]):=
 set1 (r:=.fr ((aD p "-").map .str)) (kT (x:=p) rfl hp (by decide)) rfl rfl
theorem gU {ds:List D} {e0:Option E} (h:ds.length≤1000):ap (af oNe (ao bK (aa (ad 1) ah)) (ac (.int 2))) [e0,some (.ow ds)]=some (!decide (ds.length=2)):=by
 simp
 omega
theorem tie_ok (hp:p.length≤900) {t:Tie} (h:rt p=some t):bc c [.str p]=some (ay t):=by
 unfold rt at h
 split at h
 case h_2=>cases h
 case h_1 u v e=>
  cases hu:dv' u with
  | none=>rw [hu] at h;cases h
  | some a=>
   cases hv:dv' v with
   | none=>rw [hu,hv] at h;cases h
   | some b=>
    rw [hu,hv] at h
    cases h
    refine cS (r:=.sh (ay ((a:Int),(b:Int)))) rfl (seq1 (gT hp) ?_) rfl
    rw [e]
    have b2:(2:Nat)≤big:=by decide
    refine skp (gU (by simp)) (ret1 ?_ rfl)
    have h1:=iT c hu
    have h2:=iT c hv
    simp [dJ,eW,h1,h2,b2]
theorem tie_x (hp:p.length≤900) (h:rt p=none):a9 c [.str p]=some c.BadText:=by
 unfold a9 gO fE
 show (sset 1 (cf "-" (ad 0)) [sd (.str p),none]).bind _=_
 rw [gT hp]
 simp only [Option.bind_some]
 have hl:((aD p "-").map D.str).length≤1000:=by
  have:=split_len p "-" (by decide)
  simp;omega
 by_cases h2:(aD p "-").length=2
 case neg=>
  unfold Ew.xor xif
  rw [gU hl]
  simp [h2]
 case pos=>
  obtain ⟨u,v,e⟩ : ∃ u v,aD p "-" = [u,v]:=by
   match hs:aD p "-",h2 with
   | [u,v],_=>exact ⟨u,v,rfl⟩
  rw [e]
  unfold rt at h
  rw [e] at h
  replace h:((dv' u).bind fun a=>(dv' v).bind fun b=>some ((a:Int),(b:Int)))=none:=h
  unfold Ew.xor xif
  rw [gU (by simp)]
  have hs:sif (ap (af oNe (ao bK (aa (ad 1) ah)) (ac (.int 2)))) (fun _=>none) aN [sd (.str p),some (.ow ([u,v].map .str))]=some (.nx [sd (.str p),some (.ow ([u,v].map .str))]):=by
   rw [dH,gU (by simp)];rfl
  simp only [List.map_cons,List.map_nil,List.length_cons,List.length_nil]
  simp only [List.map_cons,List.map_nil] at hs
  have x0:af oIx (ad 1) (ac (.int 0)) [sd (.str p),some (.ow [.str u,.str v])]=some (.sh (.str u)):=by simp [dJ]
  have x1:af oIx (ad 1) (ac (.int 1)) [sd (.str p),some (.ow [.str u,.str v])]=some (.sh (.str v)):=by simp [eW]
  simp only [Option.bind_some,xno,Option.none_or,Option.or_some]
  simp (config:={ decide:=true }) only [if_false,Option.none_or]
  rw [hs]
  simp only [Option.bind_some]
  rw [fg x0]
  cases hu:dv' u with
  | none=>rw [num_x c hu];rfl
  | some a=>
   rw [j0 c hu]
   cases hv:dv' v with
   | some b=>rw [hu,hv] at h;cases h
   | none=>
    unfold xnext
    rw [cs1 x0 (iT c hu)]
    simp only [Option.bind_some,Option.none_or]
    rw [fg x1,num_x c hv]
theorem tie_nx (hp:p.length≤900) {t:Tie} (h:rt p=some t):a9 c [.str p]=none:=by
 unfold rt at h
 split at h
 case h_2=>cases h
 case h_1 u v e=>
  cases hu:dv' u with
  | none=>rw [hu] at h;cases h
  | some a=>
   cases hv:dv' v with
   | none=>rw [hu,hv] at h;cases h
   | some b=>
    unfold a9 gO fE
    show (sset 1 (cf "-" (ad 0)) [sd (.str p),none]).bind _=_
    rw [gT hp,e]
    simp only [Option.bind_some]
    have hs:sif (ap (af oNe (ao bK (aa (ad 1) ah)) (ac (.int 2)))) (fun _=>none) aN [sd (.str p),some (.ow [.str u,.str v])]=some (.nx [sd (.str p),some (.ow [.str u,.str v])]):=by
     rw [dH,gU (by simp)];rfl
    have x0:af oIx (ad 1) (ac (.int 0)) [sd (.str p),some (.ow [.str u,.str v])]=some (.sh (.str u)):=by simp [dJ]
    have x1:af oIx (ad 1) (ac (.int 1)) [sd (.str p),some (.ow [.str u,.str v])]=some (.sh (.str v)):=by simp [eW]
    unfold Ew.xor xif
    simp only [List.map_cons,List.map_nil]
    rw [gU (by simp)]
    simp only [List.length_cons,List.length_nil,Option.bind_some,xno]
    simp (config:={ decide:=true }) only [if_false,Option.none_or]
    rw [hs]
    simp only [Option.bind_some]
    rw [fg x0,j0 c hu]
    unfold xnext
    rw [cs1 x0 (iT c hu)]
    simp only [Option.bind_some,Option.none_or]
    rw [fg x1,j0 c hv]
end
def tOk (n:Int) (t:Tie):Bool:=decide (0≤t.1∧t.1<t.2∧t.2<n)
theorem is_tie_eq (n:Int) (t:Tie):bj c [ay t,.int n]=some (.bl (tOk n t)):=by
 have h1:=bM c t.1
 have h2:=bM c t.2
 unfold tOk
 by_cases e1:(0:Int)≤t.1
 ·
  by_cases e2:t.1<t.2
  ·
   by_cases e3:t.2<n
   ·
    simp [bj,dL,aF,cC,bK,dJ,eW,h1,h2,e1,e2,e3]
   ·
    simp [bj,dL,aF,cC,bK,dJ,eW,h1,h2,e1,e2,e3]
  ·
   simp [bj,dL,aF,cC,bK,dJ,eW,h1,h2,e1,e2]
 ·
  simp [bj,dL,aF,cC,bK,dJ,eW,h1,h2,e1]
theorem xstep {t:DSt→Option Bool} {C:Addr} {G:DSt→Option Addr} {δ:DSt} {b:Bool} (h:t δ=some b):Ew.xor (xif t (fun _=>some C) xno) (fE (sif t (fun _=>none) aN) G) δ=if b=true then some C else G δ:=by
 unfold Ew.xor xif fE
 rw [dH,h]
 cases b <;> rfl
theorem kU {G1 G2:DSt→Option Addr} {δ:DSt} (h:G1 δ=none):Ew.xor G1 G2 δ=G2 δ:=by unfold Ew.xor;rw [h];rfl
theorem kW {G1 G2:DSt→Option Addr} {δ:DSt} {C:Addr} (h:G1 δ=some C):Ew.xor G1 G2 δ=some C:=by unfold Ew.xor;rw [h];rfl
theorem j1 {F:FS} {G:DSt→Option Addr} {δ δ1:DSt} (h:F δ=some (.nx δ1)):fE F G δ=G δ1:=by unfold fE;rw [h];rfl
theorem all_ties {n:Int} {T:List Tie} {e0:Option E} (hl:T.length≤900):ao hU (aa (bI (bb (ad 2)) (aH 0) cn (aq 2 (bj c) (aa (ad 0) (aa (ad 1) ah))) 1 [1]) ah) [e0,si n,sd (.lst (T.map ay))]=some (.sh (.bl (T.all (tOk n)))):=by
 have c1:=dr (fi:=bb (ad 2)) (g:=aH 0) (t:=cn) (fe:=aq 2 (bj c) (aa (ad 0) (aa (ad 1) ah))) (m:=1) (ix:=[1]) (δ:=[e0,si n,sd (.lst (T.map ay))]) (items:=T.map ay) rfl (by simp;omega) (da _ _ _ _ ay (fun _=>true) (fun t=>D.bl (tOk n t)) T (fun t ht=>by
  refine ⟨_,rfl,rfl,fun _=>⟨.sh (.bl (tOk n t)),?_,rfl,rfl⟩⟩
  exact call2 (r1:=.sh (ay t)) (r2:=.sh (.int n)) rfl rfl (is_tie_eq c n t) (.inl ⟨rfl,rfl⟩)))
 rw [List.filter_eq_self.2 (fun _ _=>rfl)] at c1
 rw [bS,aK,c1]
 simp only [Option.bind_some,gK,view_fr]
 unfold hU
 have e:(T.map fun t=>D.bl (tOk n t))=(T.map (tOk n)).map D.bl:=by rw [List.map_map];rfl
 show (bls (T.map fun t=>D.bl (tOk n t))).map _=_
 rw [e,gS]
 simp
theorem web_x {n:Int} {T:List Tie} (hl:T.length≤900) (h:¬dN n T):bg c [.int n,.lst (T.map ay)]=some c.BadWeb:=by
 unfold bg runIX
 show Ew.xor _ _ [none,si n,sd (.lst (T.map ay))]=_
 have hn:=bM c n
 have t1:(cI (be (ap (aq 1 (bi c) (aa (ad 1) ah)))) (be (ap (cH oLe oLe (ac (.int 1)) (ad 1) (ac (.int 8)))))) [none,si n,sd (.lst (T.map ay))]=some (!decide (1≤n∧n≤8)):=by
  by_cases a:(1:Int)≤n <;> simp [hn,a]
 have t2:(cI (be (ap (aF cL (ad 2)))) (ap (af oGt (ao bK (aa (ad 2) ah)) (ac (.int 14))))) [none,si n,sd (.lst (T.map ay))]=some (!decide (T.length≤14)):=by
  by_cases a:T.length≤14
  ·
   have b:¬((14:Int)<(T.length:Int)):=by omega
   simp [aF,cL,a,b]
  ·
   have b:(14:Int)<(T.length:Int):=by omega
   simp [aF,cL,a,b]
 rw [xstep t1]
 by_cases h1:(1:Int)≤n∧n≤8
 case neg=>rw [if_pos (by simp [h1])]
 rw [if_neg (by simp [h1]),xstep t2]
 by_cases h2:T.length≤14
 case neg=>rw [if_pos (by simp [h2])]
 rw [if_neg (by simp [h2])]
 unfold xif
 rw [jR,fv,all_ties c hl]
 have h3:T.all (tOk n)=false:=by
  cases e:T.all (tOk n) with
  | false=>rfl
  | true=>
   refine absurd ⟨h1.1,h1.2,h2,fun t ht=>?_⟩ h
   have:=List.all_eq_true.mp e t ht
   simpa [tOk] using this
 rw [h3]
 rfl
theorem strT {x:Str} {e1 e2 e3:Option E}:be (ap (aF dW (ad 0))) [sd (.str x),e1,e2,e3]=some false:=by
 simp [aF,dW]
section
variable {x p0:Str} {r:List Str}
theorem fW (hx:x.length≤900) {e1 e2 e3:Option E} (e:aD x "; " = p0::r):sset 1 (cf "; " (ad 0)) [sd (.str x),e1,e2,e3]=some (.nx [sd (.str x),some (.ow ((p0::r).map .str)),e2,e3]):=
 set1 (r:=.fr ((p0::r).map .str)) (by rw [kT (x:=x) rfl hx (by decide),e]) rfl rfl
theorem iU {e0 e2 e3:Option E}:af oIx (ad 1) (ac (.int 0)) [e0,some (.ow ((p0::r).map .str)),e2,e3]=some (.sh (.str p0)):=by simp [dJ]
theorem read_n {n:Nat} {e0 e2 e3:Option E} (h:dv' p0=some n):sset 2 (aq 1 (aS c) (aa (af oIx (ad 1) (ac (.int 0))) ah)) [e0,some (.ow ((p0::r).map .str)),e2,e3]=some (.nx [e0,some (.ow ((p0::r).map .str)),si n,e3]):=
 set1 (r:=.sh (.int (n:Int))) (cs1 iU (iT c h)) rfl rfl
theorem fB {e0 e2 e3:Option E}:bb (bY (ad 1) (bR (ac (.int 1))) cc) [e0,some (.ow ((p0::r).map .str)),e2,e3]=some (r.map .str):=by
 have:bY (ad 1) (bR (ac (.int 1))) cc [e0,some (.ow ((p0::r).map .str)),e2,e3]=some (.fr (r.map .str)):=by
  unfold bY
  show some (R.fr (cutD ((p0::r).map D.str) (some 1) none))=_
  rw [cut1];rfl
 rw [gq,this]
 rfl
theorem read_ts {T:List Tie} {e0 e2 e3:Option E} (hl:∀ p∈r,p.length≤900) (hr:r.length≤901) (h:r.map rt=T.map some):sset 3 (bI (bb (bY (ad 1) (bR (ac (.int 1))) cc)) (aH 0) cn (aq 1 (bc c) (aa (ad 0) ah)) 1 []) [e0,some (.ow ((p0::r).map .str)),e2,e3]=some (.nx [e0,some (.ow ((p0::r).map .str)),e2,some (.ow (T.map ay))]):=by
 have hs:∀ p∈r,∃ t,rt p=some t:=fun p hp=>by
  have:rt p∈T.map some:=by rw [←h];exact List.mem_map_of_mem hp
  obtain ⟨t,_,e⟩:=List.mem_map.mp this
  exact ⟨t,e.symm⟩
 have c1:=dr (fi:=bb (bY (ad 1) (bR (ac (.int 1))) cc)) (g:=aH 0) (t:=cn) (fe:=aq 1 (bc c) (aa (ad 0) ah)) (m:=1) (ix:=[]) (δ:=[e0,some (.ow ((p0::r).map .str)),e2,e3]) fB (by simp;omega) (da _ _ _ _ D.str (fun _=>true) (fun p=>ay ((rt p).getD (0,0))) r (fun p hp=>by
  obtain ⟨t,ht⟩:=hs p hp
  refine ⟨_,rfl,rfl,fun _=>⟨.sh (ay t),cs1 rfl (tie_ok c (hl p hp) ht),rfl,by rw [ht];rfl⟩⟩))
 rw [List.filter_eq_self.2 (fun _ _=>rfl)] at c1
 refine set1 c1 rfl ?_
 have e:(r.map fun p=>ay ((rt p).getD (0,0)))=T.map ay:=by
  have:(r.map rt).map (fun o=>ay (o.getD (0,0)))=T.map ay:=by rw [h,List.map_map];rfl
  rw [←this,List.map_map];rfl
 rw [e]
 rfl
theorem read_cx:∀ (r:List Str),(∀ p∈r,p.length≤900)→eH (aH 0) (aq 1 (bc c) (aa (ad 0) ah)) (aY 1 (a9 c) (aa (ad 0) ah)) [none] (r.map .str)=if (r.all fun p=>(rt p).isSome)=true then none else some c.BadText
 | [],_=>rfl
 | p::r,h=>by
  have ih:=read_cx r fun q hq=>h q (by simp [hq])
  have hp:=h p (by simp)
  rw [List.map_cons]
  unfold eH
  show (match aY 1 (a9 c) (aa (ad 0) ah) [sd (.str p)] with
   | some C=>some C
   | none=>(aq 1 (bc c) (aa (ad 0) ah) [sd (.str p)]).bind fun r1=>if r1.isBw=true then none else eH (aH 0) (aq 1 (bc c) (aa (ad 0) ah)) (aY 1 (a9 c) (aa (ad 0) ah)) [none] (r.map .str))=_
  rw [fg (d:=.str p) rfl]
  cases e:rt p with
  | none=>rw [tie_x c hp e];simp [e]
  | some t=>
   rw [tie_nx c hp e,cs1 (a:=.str p) rfl (tie_ok c hp e)]
   simp only [Option.bind_some,isBw_sh,ih,List.all_cons,e]
   simp
theorem read_x (hx:x.length≤900) (e:aD x "; " = p0::r) (h:¬∃ (n:Nat) (T:List Tie),dv' p0=some n∧r.map rt=T.map some∧dN n T):cM c [.str x]=some c.BadText:=by
 have hlen:=split_len x "; " (by decide)
 have hpart:=ey x "; "
 rw [e] at hlen hpart
 simp only [List.length_cons] at hlen
 have hl:∀ p∈r,p.length≤900:=fun p hp=>Nat.le_trans (hpart p (by simp [hp])) hx
 unfold cM gO
 show Ew.xor _ _ [sd (.str x),none,none,none]=_
 rw [xstep strT,if_neg (by simp)]
 rw [j1 (fW hx e)]
 cases hn:dv' p0 with
 | none=>exact kW (by rw [fg iU];exact num_x c hn)
 | some n=>
  rw [kU (by rw [fg iU];exact j0 c hn),j1 (read_n c hn)]
  have hc:∀ {e2 e3:Option E},iK (bb (bY (ad 1) (bR (ac (.int 1))) cc)) (aH 0) (aq 1 (bc c) (aa (ad 0) ah)) (aY 1 (a9 c) (aa (ad 0) ah)) 1 [] [sd (.str x),some (.ow ((p0::r).map .str)),e2,e3]=if (r.all fun p=>(rt p).isSome)=true then none else some c.BadText:=fun {e2 e3}=>by
   unfold iK
   rw [fB]
   simp only [Option.bind_some]
   rw [if_pos (by rw [dB];simp;omega)]
   exact read_cx c r hl
  by_cases ha:(r.all fun p=>(rt p).isSome)=true
  case neg=>exact kW (by rw [hc,if_neg ha])
  rw [kU (by rw [hc,if_pos ha])]
  obtain ⟨T,hT⟩ : ∃ T:List Tie,r.map rt=T.map some:=by
   refine ⟨r.map fun p=>(rt p).getD (0,0),?_⟩
   rw [List.map_map]
   refine List.map_congr_left fun p hp=>?_
   have:=List.all_eq_true.mp ha p hp
   cases q:rt p with
   | none=>rw [q] at this;cases this
   | some t=>simp [q]
  have hTl:T.length=r.length:=by
   have:=congrArg List.length hT
   simpa using this.symm
  rw [j1 (read_ts c hl (by omega) hT)]
  have hw:¬dN n T:=fun w=>h ⟨n,T,hn,hT,w⟩
  unfold xfrz xtry
  have e3:frz 3 [sd (.str x),some (.ow ((p0::r).map .str)),si n,some (.ow (T.map ay))]=[sd (.str x),some (.ow ((p0::r).map .str)),si n,sd (.lst (T.map ay))]:=rfl
  rw [e3]
  have e4:aY 2 (bg c) (aa (ad 2) (aa (ad 3) ah)) [sd (.str x),some (.ow ((p0::r).map .str)),si n,sd (.lst (T.map ay))]=bg c [.int n,.lst (T.map ay)]:=by
   unfold aY
   simp
  rw [e4,web_x c (by omega) hw]
  simp [gQ,isA]
theorem read_ok (hx:x.length≤900) (e:aD x "; " = p0::r) {n:Nat} {T:List Tie} (hn:dv' p0=some n) (hT:r.map rt=T.map some) (W:dN n T):iP c [.str x]=some (fF c n T):=by
 have hlen:=split_len x "; " (by decide)
 have hpart:=ey x "; "
 rw [e] at hlen hpart
 simp only [List.length_cons] at hlen
 have hl:∀ p∈r,p.length≤900:=fun p hp=>Nat.le_trans (hpart p (by simp [hp])) hx
 have hF:F_read c [sd (.str x),none,none,none]=some (.rn (fF c n T)):=by
  refine seq1 (δ1:=[sd (.str x),none,none,none]) (by rw [dH,strT];rfl) (seq1 (fW hx e) (seq1 (read_n c hn) (seq1 (read_ts c hl (by omega) hT) ?_)))
  rw [sfrz_e]
  show ji _ [sd (.str x),some (.ow ((p0::r).map .str)),si n,sd (.lst (T.map ay))]=_
  unfold ji
  erw [kP c W (r1:=.sh (.int n)) (r2:=.sh (.lst (T.map ay))) rfl rfl rfl rfl rfl]
  rfl
 unfold iP Ew.runN
 have:F_read c (([D.str x].map fun d=>some (E.sh d))++List.replicate (4-[D.str x].length) none)=some (.rn (fF c n T)):=hF
 rw [this]
end
theorem read_no {d:D} (h:dW d=some false):cM c [d]=some c.BadText:=by
 unfold cM gO
 show Ew.xor _ _ [sd d,none,none,none]=_
 rw [xstep (b:=true) (by simp [aF,h]),if_pos rfl]
end Pg
end
section
namespace Ew
open PySem
abbrev sk (x:Str):Prop:=PyData.strOk x=true
theorem fC {x:Str} (h:sk x):okD (.str x)=true:=by unfold okD;simp [D.plain,D.py,PyData.canLay0,PyData.depth,h]
theorem j3 (x y:Str):eqP (.str x) (.str y)=decide (x=y):=by
 unfold eqP
 simp only [D.py,PyData.eqv]
 by_cases h:x=y
 ·
  simp [h]
 ·
  simp [h]
theorem oNe_str {x y:Str} (hx:sk x) (hy:sk y):oNe (.str x) (.str y)=some (.sh (.bl (!decide (x=y)))):=by
 unfold oNe
 rw [if_pos ⟨fC hx,fC hy⟩,j3]
theorem oEq_str {x y:Str} (hx:sk x) (hy:sk y):oEq (.str x) (.str y)=some (.sh (.bl (decide (x=y)))):=by
 unfold oEq
 rw [if_pos ⟨fC hx,fC hy⟩,j3]
theorem kX {x:Str} {ts:List Str} (hx:sk x) (ht:∀ t∈ts,sk t):cQ (.str x) (.lst (ts.map .str))=some (.sh (.bl (!decide (x∈ts)))):=by
 unfold cQ
 have h2:okD (.lst (ts.map .str))=true:=iF fun d hd=>by
  obtain ⟨t,h,rfl⟩:=List.mem_map.mp hd
  obtain ⟨a,b,c⟩:=bf (fC (ht t h))
  exact ⟨a,b,by unfold D.py PyData.depth;omega⟩
 show (if okD (.str x)=true∧okD (.lst (ts.map .str))=true then _ else _)=_
 rw [if_pos ⟨fC hx,h2⟩]
 congr 4
 clear h2 ht
 induction ts with
 | nil=>rfl
 | cons t ts ih=>
  rw [List.map_cons,List.any_cons,ih,j3]
  by_cases h:t=x
  ·
   subst h;simp
  ·
   have:¬x=t:=fun z=>h z.symm
   simp [h,this]
theorem b5 {x y:Str}:sk (x++y)↔sk x∧sk y:=by
 unfold sk PyData.strOk
 rw [Str.cps_append]
 simp only [Array.all_append,Bool.and_eq_true]
theorem sk_join {y:Str}:∀ {p:Str} {r:List Str},sk (Str.join y (p::r))→∀ z∈p::r,sk z
 | p,[],h,z,hz=>by
  cases List.mem_singleton.mp hz
  exact h
 | p,q::r,h,z,hz=>by
  rw [Tx.join_cons,b5,b5] at h
  rcases List.mem_cons.mp hz with rfl | hz
  ·
   exact h.1.1
  ·
   exact sk_join h.2 z hz
theorem join_sk {y:Str} (hy:sk y):∀ {p:Str} {r:List Str},(∀ z∈p::r,sk z)→sk (Str.join y (p::r))
 | p,[],h=>h p (by simp)
 | p,q::r,h=>by
  rw [Tx.join_cons,b5,b5]
  exact ⟨⟨h p (by simp),hy⟩,join_sk hy fun z hz=>h z (by simp [hz])⟩
theorem sk_one {a:Nat} (h:a<1114112):sk ⟨#[a]⟩:=by simp [sk,PyData.strOk,h]
theorem kY {x y p:Str} {r:List Str} (h:sk x) (e:aD x y=p::r):∀ z∈p::r,sk z:=by
 have:=Tx.join_split x y
 rw [e] at this
 rw [←this] at h
 exact sk_join h
end Ew
namespace Pg
open PySem PySem.Spec L2 Ew Tx
variable (c:CA)
theorem str_dg:∀ k:Fin 10,(Str.ofString (toString ((k.val:Nat):Int)))=dg k.val:=by decide +kernel
theorem oStr_dg {k:Nat} (h:k<10):cW (.int (k:Int))=some (.sh (.str (dg k))):=by
 have e:=str_dg ⟨k,h⟩
 unfold cW
 have hl:((k:Int)).natAbs.log2<1920:=by
  have:∀ j:Fin 10,((j.val:Int)).natAbs.log2<1920:=by decide +kernel
  exact this ⟨k,h⟩
 show (if ((k:Int)).natAbs.log2<1920 then some (R.sh (D.str (Str.ofString (toString (k:Int))))) else none)=_
 rw [if_pos hl]
 exact congrArg (fun z=>some (R.sh (.str z))) e
theorem strs_map (ts:List Str):eD (ts.map .str)=some ts:=by
 induction ts with
 | nil=>rfl
 | cons t ts ih=>rw [List.map_cons];unfold eD;rw [ih];rfl
theorem j4 {y:Str} {f:FE} {δ:DSt} {r:R} {ts:List Str} (h:f δ=some r) (hv:r.view=.lst (ts.map .str)) (hy:y.length≤10) (hl:ts.length≤900) (hb:∀ t∈ts,t.length≤900) (hj:(Str.join y ts).length≤1000):de y f δ=some (.sh (.str (Str.join y ts))):=by
 unfold de
 rw [h,Option.bind_some,hv]
 show (eD (ts.map D.str)).bind _=_
 rw [strs_map,Option.bind_some,glueS_eq]
 rw [if_pos]
 refine ⟨StrLaws.joinFits hb ?_,hj⟩
 have h1:ts.length*900≤900*900:=Nat.mul_le_mul_right _ hl
 have h2:ts.length*y.length≤900*10:=Nat.mul_le_mul hl hy
 omega
def cE (t:Tie):Str:=dg t.1.toNat++"-"++dg t.2.toNat
def tDig (t:Tie):Prop:=0≤t.1∧t.1<10∧0≤t.2∧t.2<10
theorem iV (t:Tie):(cE t).length=3:=by
 unfold cE
 rw [Str.length_append,Str.length_append]
 rfl
theorem dO {i:Int} (h0:0≤i) (h1:i<10):cW (.int i)=some (.sh (.str (dg i.toNat))):=by
 have:=oStr_dg (k:=i.toNat) (by omega)
 rwa [show ((i.toNat:Nat):Int)=i by omega] at this
theorem iW {t:Tie} (h:tDig t):cA c [ay t]=some (.str (cE t)):=by
 obtain ⟨h1,h2,h3,h4⟩:=h
 refine cS (r:=.sh (.str (cE t))) rfl (ret1 ?_ rfl) rfl
 have c1:=dr (fi:=itup (ad 0)) (g:=aH 0) (t:=cn) (fe:=ao cW (aa (ad 0) ah)) (m:=1) (ix:=[]) (δ:=[sd (ay t)]) (items:=[t.1,t.2].map .int) rfl (by simp) (da _ _ _ _ D.int (fun _=>true) (fun i=>D.str (dg i.toNat)) [t.1,t.2] (fun i hi=>by
  refine ⟨_,rfl,rfl,fun _=>⟨.sh (.str (dg i.toNat)),?_,rfl,rfl⟩⟩
  rw [bS]
  show cW (.int i)=_
  simp at hi
  rcases hi with rfl | rfl
  ·
   exact dO h1 h2
  ·
   exact dO h3 h4))
 rw [List.filter_eq_self.2 (fun _ _=>rfl)] at c1
 exact j4 (ts:=[dg t.1.toNat,dg t.2.toNat]) c1 rfl (by decide) (by simp) (fun z hz=>by
  simp at hz
  rcases hz with rfl | rfl <;> (show (1:Nat)≤900;omega)) (by
  show (cE t).length≤1000
  rw [iV];omega)
theorem join_le (y:Str) (B:Nat):∀ (p:Str) (r:List Str),(∀ z∈p::r,z.length≤B)→(Str.join y (p::r)).length≤(r.length+1)*(B+y.length)
 | p,[],h=>by
  have:=h p (by simp)
  rw [join_one]
  simp
  omega
 | p,q::r,h=>by
  have:=join_le y B q r fun z hz=>h z (by simp [hz])
  have h1:=h p (by simp)
  rw [join_cons,Str.length_append,Str.length_append]
  simp only [List.length_cons] at this ⊢
  rw [Nat.add_mul]
  omega
def cT (n:Int) (T:List Tie):Str:=Str.join "; " (dg n.toNat::T.map cE)
theorem kZ {n:Int} {T:List Tie} (h:T.length≤14):(cT n T).length≤75:=by
 have:=join_le "; " 3 (dg n.toNat) (T.map cE) (fun z hz=>by
  rcases List.mem_cons.mp hz with rfl | hz
  ·
   show (1:Nat)≤3;omega
  ·
   obtain ⟨t,_,rfl⟩:=List.mem_map.mp hz
   rw [iV];omega)
 have e:("; " : Str).length=2:=by decide
 rw [e,List.length_map] at this
 unfold cT
 have:(T.length+1)*(3+2)≤15*5:=Nat.mul_le_mul (by omega) (by omega)
 omega
theorem j5 {n:Int} {T:List Tie} (W:dN n T):∀ t∈T,tDig t:=fun t ht=>by
 obtain ⟨h1,h2,h3⟩:=W.2.2.2 t ht
 have:=W.2.1
 exact ⟨by omega,by omega,by omega,by omega⟩
theorem jv {n:Int} {T:List Tie} (W:dN n T) {f:FE} {δ:DSt} {r:R} (h:f δ=some r) (hv:r.view=.lst ((dg n.toNat::T.map cE).map .str)):de "; " f δ=some (.sh (.str (cT n T))):=
 j4 h hv (by decide) (by have:=W.2.2.1;simp;omega) (fun z hz=>by
  rcases List.mem_cons.mp hz with rfl | hz
  ·
   show (1:Nat)≤900;omega
  ·
   obtain ⟨t,_,rfl⟩:=List.mem_map.mp hz
   rw [iV];omega) (by have:=kZ (n:=n) W.2.2.1;unfold cT at this;omega)
theorem iX {n:Int} {T:List Tie} (W:dN n T):dM c [fF c n T]=some (.str (cT n T)):=by
 refine cS (r:=.sh (.str (cT n T))) rfl (ret1 ?_ rfl) rfl
 have hl:=W.2.2.1
 have c1:=dr (fi:=bb (ez c.Web "ties" 1 (bL c) (ad 0) ah)) (g:=aH 0) (t:=cn) (fe:=aq 1 (cA c) (aa (ad 0) ah)) (m:=1) (ix:=[]) (δ:=[sW c n T]) (items:=T.map ay) (by rw [gq,jr c (f:=ad 0) rfl];rfl) (by simp;omega) (da _ _ _ _ ay (fun _=>true) (fun t=>D.str (cE t)) T (fun t ht=>by
  refine ⟨_,rfl,rfl,fun _=>⟨.sh (.str (cE t)),?_,rfl,rfl⟩⟩
  exact cs1 rfl (iW c (j5 W t ht))))
 rw [List.filter_eq_self.2 (fun _ _=>rfl)] at c1
 have e1:bz (aa (ao cW (aa (dfld (isC c.Web) "points" (ad 0)) ah)) ah) [sW c n T]=some (.fr [.str (dg n.toNat)]):=by
  have h1:dfld (isC c.Web) "points" (ad 0) [sW c n T]=some (.sh (.int n)):=by simp [fF,jq]
  have h2:ao cW (aa (dfld (isC c.Web) "points" (ad 0)) ah) [sW c n T]=some (.sh (.str (dg n.toNat))):=by
   rw [bS,aK,h1]
   exact dO (by have:=W.1;omega) (by have:=W.2.1;omega)
  have b1:(1:Nat)≤big:=by decide
  simp only [jS,aK,h2]
  simp [b1]
 refine jv W (r:=.fr ([.str (dg n.toNat)]++T.map fun t=>D.str (cE t))) (cN e1 c1 (show aC (.lst [D.str (dg n.toNat)]) (.lst (T.map fun t=>D.str (cE t)))=_ from ej _ _ (by simp;omega))) ?_
 simp [List.map_map]
theorem gy {d:D} (h:cM c [d]=some c.BadText):bp c [d]=some (.bl true):=by
 have b3:(3:Nat)≤big:=by decide
 refine cS (δ:=[sd d,none,none]) (r:=.sh (.bl true)) rfl ?_ rfl
 show aL (stry _ _ _ _) _ _=_
 rw [iE]
 unfold stry
 have e1:aY 1 (cM c) (aa (ad 0) ah) [sd d,none,none]=some c.BadText:=by
  rw [fg (d:=d) rfl,h]
 rw [e1]
 have x1:di c c.BadText=some true:=by simp [di,isA]
 have x2:dl c c.BadText=some false:=by simp [dl,isA]
 have x3:dq c c.BadText=some false:=by simp [dq,isA]
 have x4:dZ c c.BadText=some true:=by simp [dZ,isA]
 have x5:fw c c.BadText=some false:=by simp [fw,isA]
 have x6:fz c c.BadText=some false:=by simp [fz,isA]
 have x7:cz c c.BadText=some true:=by simp [cz,isA]
 have x8:im c c.BadText=some false:=by simp [im,isA]
 simp [x1,h7,x2,x3,x4,x5,x6,x7,x8,b3,oAny,ej,bls]
end Pg
end
section
namespace Pg
open PySem PySem.Spec L2 Ew Tx
variable (c:CA)
def lt (n:Nat) (p:Str):Option Tie:=match p.cps.toList with
 | [a,s,b]=>if (s=45∧(48≤a∧a<56)∧48≤b∧b<56)∧a-48<b-48∧b-48<n then some (((a-48:Nat):Int),((b-48:Nat):Int)) else none
 | _=>none
theorem three {p:Str} (h:p.length=3):∃ a s b,p=⟨#[a,s,b]⟩:=by
 obtain ⟨⟨l⟩⟩:=p
 match l,h with
 | [a,s,b],_=>exact ⟨a,s,b,rfl⟩
theorem ch3 {a s b:Nat} {f:FE} {δ:DSt} (h:f δ=some (.sh (.str ⟨#[a,s,b]⟩))):af oCh f (ac (.int 0)) δ=some (.sh (.str ⟨#[a]⟩))∧af oCh f (ac (.int 1)) δ=some (.sh (.str ⟨#[s]⟩))∧af oCh f (ac (.int 2)) δ=some (.sh (.str ⟨#[b]⟩)):=by
 have e:(⟨#[a,s,b]⟩ : Str).length=3:=rfl
 refine ⟨bs h rfl ?_,bs h rfl ?_,bs h rfl ?_⟩ <;> simp [oCh,e]
theorem inS_oct (a:Nat):dh (.str ⟨#[a]⟩) (.str "01234567")=some (.sh (.bl (!decide (48≤a∧a<56)))):=by
 show some (R.sh (.bl (!inS ⟨#[a]⟩ "01234567")))=_
 unfold inS
 rw [StrLaws.found_one]
 have e:("01234567" : Str).cps.toList=[48,49,50,51,52,53,54,55]:=by decide +kernel
 rw [e]
 congr 4
 rw [Bool.eq_iff_iff,decide_eq_true_eq,decide_eq_true_eq]
 simp
 omega
theorem int1 {a:Nat} {f:FE} {δ:DSt} (h:f δ=some (.sh (.str ⟨#[a]⟩))) (h0:48≤a) (h1:a<58):ao bT (aa f ah) δ=some (.sh (.int ((a-48:Nat):Int))):=by
 rw [bS,aK,h]
 show (if 48≤a∧a<58 then some (R.sh (.int ((a-48:Nat):Int))) else none)=_
 rw [if_pos ⟨h0,h1⟩]
def inB:FS:=(aL (sif ((cI (ap (af oNe (ao bK (aa (ad 3) ah)) (ac (.int 3)))) (cI (ap (af oNe (af oCh (ad 3) (ac (.int 1))) (ac (.str "-")))) (cI (ap (af dh (af oCh (ad 3) (ac (.int 0))) (ac (.str "01234567")))) (ap (af dh (af oCh (ad 3) (ac (.int 2))) (ac (.str "01234567")))))))) (bH (ac .non)) aN) (aL (sif (be (ap (cH oLt oLt (ao bT (aa (af oCh (ad 3) (ac (.int 0))) ah)) (ao bT (aa (af oCh (ad 3) (ac (.int 2))) ah)) (ao bT (aa (af oIx (ad 1) (ac (.int 0))) ah))))) (bH (ac .non)) aN) (hV 2 (ck (aa (ao bT (aa (af oCh (ad 3) (ac (.int 0))) ah)) (aa (ao bT (aa (af oCh (ad 3) (ac (.int 2))) ah)) ah))))))
theorem sk_dash:sk ("-" : Str):=by decide +kernel
theorem in_body {n:Nat} {p:Str} {T r:List D} {e0:Option E} (hn:n<10) (hp:sk p) (hl:p.length≤900) (hT:T.length≤900) :
  inB [e0,some (.ow (.str (dg n)::r)),some (.ow T),sd (.str p)]=match lt n p with
   | some t=>some (.nx [e0,some (.ow (.str (dg n)::r)),some (.ow (T++[ay t])),sd (.str p)])
   | none=>some (.rt (.sh .non)):=by
 have len:ap (af oNe (ao bK (aa (ad 3) ah)) (ac (.int 3))) [e0,some (.ow (.str (dg n)::r)),some (.ow T),sd (.str p)]=some (!decide ((p.length:Int)=3)):=by
  have:p.length≤big:=by rw [dB];omega
  refine eZ (cN (a:=.sh (.int p.length)) (b:=.sh (.int 3)) ?_ rfl (oNe_ii _ _))
  rw [bS,aK]
  show bK (.str p)=_
  unfold bK
  exact if_pos this
 by_cases h3:p.length=3
 case neg=>
  have e:lt n p=none:=by
   unfold lt
   split
   ·
    rename_i a s b q
    exact absurd (by show p.cps.size=3;rw [←Array.length_toList,q];rfl) h3
   ·
    rfl
  rw [e]
  refine stp ?_
  rw [gJ,len]
  have:¬((p.length:Int)=3):=by omega
  simp [this]
 case pos=>
  obtain ⟨a,s,b,rfl⟩:=three h3
  obtain ⟨c0,c1,c2⟩:=ch3 (a:=a) (s:=s) (b:=b) (f:=ad 3) (δ:=[e0,some (.ow (.str (dg n)::r)),some (.ow T),sd (.str ⟨#[a,s,b]⟩)]) rfl
  have ok:a<1114112∧s<1114112∧b<1114112:=by simpa [sk,PyData.strOk] using hp
  have es:((⟨#[s]⟩ : Str) = "-")↔s=45:=by
   have:("-" : Str)=⟨#[45]⟩:=by decide +kernel
   rw [this]
   constructor
   ·
    intro h;injection h with h;have:=congrArg Array.toList h;simpa using this
   ·
    rintro rfl;rfl
  have t1:ap (af oNe (af oCh (ad 3) (ac (.int 1))) (ac (.str "-"))) [e0,some (.ow (.str (dg n)::r)),some (.ow T),sd (.str ⟨#[a,s,b]⟩)]=some (!decide (s=45)):=by
   refine eZ (bs c1 rfl ?_)
   rw [oNe_str (sk_one ok.2.1) sk_dash]
   simp only [es]
  have t2:=eZ (bs c0 (b:=.str "01234567") (fb:=ac (.str "01234567")) rfl (inS_oct a))
  have t3:=eZ (bs c2 (b:=.str "01234567") (fb:=ac (.str "01234567")) rfl (inS_oct b))
  have tt:(cI (ap (af oNe (ao bK (aa (ad 3) ah)) (ac (.int 3)))) (cI (ap (af oNe (af oCh (ad 3) (ac (.int 1))) (ac (.str "-")))) (cI (ap (af dh (af oCh (ad 3) (ac (.int 0))) (ac (.str "01234567")))) (ap (af dh (af oCh (ad 3) (ac (.int 2))) (ac (.str "01234567"))))))) [e0,some (.ow (.str (dg n)::r)),some (.ow T),sd (.str ⟨#[a,s,b]⟩)]=some (!decide (s=45∧(48≤a∧a<56)∧48≤b∧b<56)):=by
   rw [show (!decide (((⟨#[a,s,b]⟩ : Str).length:Int)=3))=false from rfl] at len
   rw [gJ,len,gJ,t1,gJ,t2,t3]
   by_cases q1:s=45 <;> by_cases q2:48≤a∧a<56 <;> by_cases q3:48≤b∧b<56 <;> simp [q1,q2,q3]
  have el:lt n ⟨#[a,s,b]⟩=if (s=45∧(48≤a∧a<56)∧48≤b∧b<56)∧a-48<b-48∧b-48<n then some (((a-48:Nat):Int),((b-48:Nat):Int)) else none:=rfl
  rw [el]
  by_cases g:s=45∧(48≤a∧a<56)∧48≤b∧b<56
  case neg=>
   rw [if_neg (fun z=>g z.1)]
   exact stp (by rw [tt];simp [g])
  case pos=>
   refine skp (by rw [tt];simp [g]) ?_
   have i0:=int1 c0 g.2.1.1 (by omega)
   have i2:=int1 c2 g.2.2.1 (by omega)
   have x0:af oIx (ad 1) (ac (.int 0)) [e0,some (.ow (.str (dg n)::r)),some (.ow T),sd (.str ⟨#[a,s,b]⟩)]=some (.sh (.str ⟨#[48+n]⟩)):=by simp [dJ,dg]
   have i1:=int1 x0 (by omega) (by omega)
   rw [show 48+n-48=n by omega] at i1
   have tc:be (ap (cH oLt oLt (ao bT (aa (af oCh (ad 3) (ac (.int 0))) ah)) (ao bT (aa (af oCh (ad 3) (ac (.int 2))) ah)) (ao bT (aa (af oIx (ad 1) (ac (.int 0))) ah)))) [e0,some (.ow (.str (dg n)::r)),some (.ow T),sd (.str ⟨#[a,s,b]⟩)]=some (!decide (a-48<b-48∧b-48<n)):=by
    refine not_t (eZ ?_)
    unfold cH
    rw [i0,i2,i1]
    simp only [Option.bind_some,view_sh]
    have o1:oLt (.int ((a-48:Nat):Int)) (.int ((b-48:Nat):Int))=some (.sh (.bl (decide (a-48<b-48)))):=by
     show some (R.sh (.bl (decide (((a-48:Nat):Int)<((b-48:Nat):Int)))))=_
     simp only [Int.ofNat_lt]
    have o2:oLt (.int ((b-48:Nat):Int)) (.int (n:Int))=some (.sh (.bl (decide (b-48<n)))):=by
     show some (R.sh (.bl (decide (((b-48:Nat):Int)<(n:Int)))))=_
     simp only [Int.ofNat_lt]
    rw [o1]
    by_cases q1:a-48<b-48
    ·
     simp only [q1,decide_true,Option.bind_some,true_and]
     exact o2
    ·
     simp only [q1,decide_false,Option.bind_some,false_and]
   by_cases q:a-48<b-48∧b-48<n
   case neg=>
    rw [if_neg (fun z=>q z.2)]
    exact stp (by rw [tc];simp [q])
   case pos=>
    rw [if_pos ⟨g,q⟩]
    refine skp (by rw [tc];simp [q]) ?_
    have b2:(2:Nat)≤big:=by decide
    have ht:ck (aa (ao bT (aa (af oCh (ad 3) (ac (.int 0))) ah)) (aa (ao bT (aa (af oCh (ad 3) (ac (.int 2))) ah)) ah)) [e0,some (.ow (.str (dg n)::r)),some (.ow T),sd (.str ⟨#[a,s,b]⟩)]=some (.sh (ay (((a-48:Nat):Int),((b-48:Nat):Int)))):=by
     have e:aa (ao bT (aa (af oCh (ad 3) (ac (.int 0))) ah)) (aa (ao bT (aa (af oCh (ad 3) (ac (.int 2))) ah)) ah) [e0,some (.ow (.str (dg n)::r)),some (.ow T),sd (.str ⟨#[a,s,b]⟩)]=some [.sh (.int ((a-48:Nat):Int)),.sh (.int ((b-48:Nat):Int))]:=by
      rw [aK,i0,Option.bind_some,aK,i2]
      rfl
     rw [dtup_e,e]
     simp [b2]
    have hb:T.length≤big:=by rw [dB];omega
    unfold hV
    rw [ht]
    simp [hb]
theorem in_ok {n:Nat} {r0:List D} {e0:Option E} (hn:n<10):∀ (r:List Str) (T0 T:List Tie) (x:Option E),(∀ p∈r,sk p∧p.length≤900)→T0.length+r.length≤900→r.map (lt n)=T.map some→
  ∃ y,cY (aH 3) inB (r.map .str) [e0,some (.ow (.str (dg n)::r0)),some (.ow (T0.map ay)),x]=some (.nx [e0,some (.ow (.str (dg n)::r0)),some (.ow ((T0++T).map ay)),y])
 | [],T0,T,x,_,_,h=>by
  have:T=[]:=by
   cases T with
   | nil=>rfl
   | cons t T=>simp at h
  subst this
  exact ⟨x,by rw [List.append_nil];rfl⟩
 | p::r,T0,T,x,h,hl,hT=>by
  cases T with
  | nil=>simp at hT
  | cons t T=>
   rw [List.map_cons,List.map_cons,List.cons.injEq] at hT
   rw [List.length_cons] at hl
   obtain ⟨y,ih⟩:=in_ok (r0:=r0) (e0:=e0) hn r (T0++[t]) T (sd (.str p)) (fun q hq=>h q (by simp [hq])) (by simp;omega) hT.2
   refine ⟨y,?_⟩
   rw [List.map_cons]
   unfold cY
   have hg:aH 3 (.str p) [e0,some (.ow (.str (dg n)::r0)),some (.ow (T0.map ay)),x]=some [e0,some (.ow (.str (dg n)::r0)),some (.ow (T0.map ay)),sd (.str p)]:=rfl
   rw [hg]
   simp only [Option.bind_some]
   rw [in_body hn (h p (by simp)).1 (h p (by simp)).2 (by simp;omega),hT.1]
   simp only [Option.bind_some,io]
   rw [List.map_append,List.map_append] at ih
   simp only [List.map_append,List.map_cons,List.append_assoc,List.map_nil,List.singleton_append] at ih ⊢
   exact ih
theorem in_no {n:Nat} {r0:List D} {e0:Option E} (hn:n<10):∀ (r:List Str) (T0:List Tie) (x:Option E),(∀ p∈r,sk p∧p.length≤900)→T0.length+r.length≤900→(∃ p∈r,lt n p=none)→
  cY (aH 3) inB (r.map .str) [e0,some (.ow (.str (dg n)::r0)),some (.ow (T0.map ay)),x]=some (.rt (.sh .non))
 | [],T0,x,_,_,⟨_,h,_⟩=>by cases h
 | p::r,T0,x,h,hl,⟨q,hq,hqn⟩=>by
  rw [List.length_cons] at hl
  rw [List.map_cons]
  unfold cY
  have hg:aH 3 (.str p) [e0,some (.ow (.str (dg n)::r0)),some (.ow (T0.map ay)),x]=some [e0,some (.ow (.str (dg n)::r0)),some (.ow (T0.map ay)),sd (.str p)]:=rfl
  rw [hg]
  simp only [Option.bind_some]
  rw [in_body hn (h p (by simp)).1 (h p (by simp)).2 (by simp;omega)]
  cases e:lt n p with
  | none=>rfl
  | some t=>
   have hq':q∈r:=by
    rcases List.mem_cons.mp hq with rfl | z
    ·
     rw [e] at hqn;cases hqn
    ·
     exact z
   have ih:=in_no (r0:=r0) (e0:=e0) hn r (T0++[t]) (sd (.str p)) (fun q hq=>h q (by simp [hq])) (by simp;omega) ⟨q,hq',hqn⟩
   simp only [Option.bind_some,io]
   rw [List.map_append] at ih
   exact ih
theorem j6 {a b:Nat}:cE ((a:Int),(b:Int))=⟨#[48+a,45,48+b]⟩:=by
 have:("-" : Str)=⟨#[45]⟩:=by decide +kernel
 unfold cE
 rw [this]
 rfl
theorem rt_form {p:Str} {t:Tie} (h:rt p=some t):p=cE t∧tDig t:=by
 unfold rt at h
 split at h
 case h_2=>cases h
 case h_1 u v e=>
  cases hu:dv' u with
  | none=>rw [hu] at h;cases h
  | some a=>
   cases hv:dv' v with
   | none=>rw [hu,hv] at h;cases h
   | some b=>
    rw [hu,hv] at h
    cases h
    obtain ⟨ha,rfl⟩:=jZ hu
    obtain ⟨hb,rfl⟩:=jZ hv
    have:=join_split p "-"
    rw [e] at this
    refine ⟨this.symm,?_⟩
    unfold tDig
    omega
theorem rt_tieS {t:Tie} (h:tDig t):rt (cE t)=some t:=by
 obtain ⟨a,b⟩:=t
 unfold tDig at h
 obtain ⟨a,rfl⟩:=Int.eq_ofNat_of_zero_le h.1
 obtain ⟨b,rfl⟩:=Int.eq_ofNat_of_zero_le h.2.2.1
 have ha:a<10:=by omega
 have hb:b<10:=by omega
 rw [j6]
 unfold rt
 rw [split_tie ⟨a,ha⟩ ⟨b,hb⟩]
 show ((dv' (dg a)).bind fun a=>(dv' (dg b)).bind fun b=>some ((a:Int),(b:Int)))=_
 rw [dv_dg ha,dv_dg hb]
 rfl
theorem lt_rt {n:Nat} {p:Str} {t:Tie} (hn:n≤8):lt n p=some t↔rt p=some t∧0≤t.1∧t.1<t.2∧t.2<n:=by
 constructor
 ·
  intro h
  unfold lt at h
  split at h
  case h_2=>cases h
  case h_1 a s b e=>
   split at h
   case isFalse=>cases h
   case isTrue q=>
    cases h
    obtain ⟨⟨rfl,q1,q2⟩,q3,q4⟩:=q
    have hp:p=cE (((a-48:Nat):Int),((b-48:Nat):Int)):=by
     rw [j6,show 48+(a-48)=a by omega,show 48+(b-48)=b by omega]
     obtain ⟨⟨l⟩⟩:=p
     have:l=[a,45,b]:=e
     rw [this]
    rw [hp]
    refine ⟨rt_tieS ?_,?_,?_,?_⟩
    ·
     unfold tDig;simp only;omega
    ·
     simp only;omega
    ·
     simp only;omega
    ·
     simp only;omega
 ·
  rintro ⟨h,h1,h2,h3⟩
  obtain ⟨rfl,hd⟩:=rt_form h
  obtain ⟨a,b⟩:=t
  obtain ⟨a,rfl⟩:=Int.eq_ofNat_of_zero_le hd.1
  obtain ⟨b,rfl⟩:=Int.eq_ofNat_of_zero_le hd.2.2.1
  simp only at h1 h2 h3
  rw [j6]
  show (if ((45:Nat)=45∧(48≤48+a∧48+a<56)∧48≤48+b∧48+b<56)∧48+a-48<48+b-48∧48+b-48<n then some (((48+a-48:Nat):Int),((48+b-48:Nat):Int)) else none)=_
  rw [if_pos (by omega),show 48+a-48=a by omega,show 48+b-48=b by omega]
def ones:List Str:=["1", "2", "3", "4", "5", "6", "7", "8"]
theorem ones_eq:ones=(List.range 8).map fun k=>dg (k+1):=by decide +kernel
theorem ones_sk:∀ t∈ones,sk t:=by decide +kernel
theorem k6 {p:Str}:p∈ones↔∃ n,1≤n∧n≤8∧p=dg n:=by
 rw [ones_eq]
 constructor
 ·
  intro h
  obtain ⟨k,hk,rfl⟩:=List.mem_map.mp h
  have:k<8:=by simpa using hk
  exact ⟨k+1,by omega,by omega,rfl⟩
 ·
  rintro ⟨n,h1,h2,rfl⟩
  exact List.mem_map.mpr ⟨n-1,by simp;omega,by rw [show n-1+1=n by omega]⟩
section
variable {x p0:Str} {r:List Str}
theorem j7 (hp:sk p0) (hl:r.length≤901) {e0 e2 e3:Option E}:(cI (ap (af cQ (af oIx (ad 1) (ac (.int 0))) (bz (aa (ac (.str "1")) (aa (ac (.str "2")) (aa (ac (.str "3")) (aa (ac (.str "4")) (aa (ac (.str "5")) (aa (ac (.str "6")) (aa (ac (.str "7")) (aa (ac (.str "8")) ah))))))))))) (ap (af oGt (ao bK (aa (ad 1) ah)) (ac (.int 15))))) [e0,some (.ow ((p0::r).map .str)),e2,e3]=some (!decide (p0∈ones∧r.length≤14)):=by
 have b8:(8:Nat)≤big:=by decide
 have d1:bz (aa (ac (.str "1")) (aa (ac (.str "2")) (aa (ac (.str "3")) (aa (ac (.str "4")) (aa (ac (.str "5")) (aa (ac (.str "6")) (aa (ac (.str "7")) (aa (ac (.str "8")) ah)))))))) [e0,some (.ow ((p0::r).map .str)),e2,e3]=some (.fr (ones.map .str)):=by
  simp [b8,ones]
 have t1:ap (af cQ (af oIx (ad 1) (ac (.int 0))) (bz (aa (ac (.str "1")) (aa (ac (.str "2")) (aa (ac (.str "3")) (aa (ac (.str "4")) (aa (ac (.str "5")) (aa (ac (.str "6")) (aa (ac (.str "7")) (aa (ac (.str "8")) ah)))))))))) [e0,some (.ow ((p0::r).map .str)),e2,e3]=some (!decide (p0∈ones)):=
  eZ (cN iU d1 (show cQ (.str p0) (.lst (ones.map .str))=_ from kX hp ones_sk))
 have t2:ap (af oGt (ao bK (aa (ad 1) ah)) (ac (.int 15))) [e0,some (.ow ((p0::r).map .str)),e2,e3]=some (!decide (r.length≤14)):=by
  by_cases a:r.length≤14
  ·
   have b:¬((15:Int)<(r.length:Int)+1):=by omega
   simp [a,b]
  ·
   have b:(15:Int)<(r.length:Int)+1:=by omega
   simp [a,b]
 rw [gJ,t1,t2]
 by_cases a:p0∈ones <;> simp [a]
theorem k7 (hx:x.length≤900) {e1 e2 e3:Option E} (e:aD x "; " = p0::r):sset 1 (cf "; " (ad 0)) [sd (.str x),e1,e2,e3]=some (.nx [sd (.str x),some (.ow ((p0::r).map .str)),e2,e3]):=fW hx e
theorem law_in_ok (hs:sk x) (hx:x.length≤900) (e:aD x "; " = p0::r) {n:Nat} {T:List Tie} (h0:p0=dg n) (h1:1≤n) (h2:n≤8) (hl:r.length≤14) (hT:r.map (lt n)=T.map some):gw c [.str x]=some (eJ n T):=by
 have hsk:=kY hs e
 have hpart:=ey x "; "
 rw [e] at hpart
 subst h0
 obtain ⟨y,lp⟩:=in_ok (e0:=sd (.str x)) (r0:=r.map .str) (n:=n) (by omega) r [] T none (fun p hp=>⟨hsk p (by simp [hp]),Nat.le_trans (hpart p (by simp [hp])) hx⟩) (by simp;omega) hT
 refine cS (r:=.sh (eJ n T)) rfl (seq1 (k7 hx e) (skp ?_ (seq1 (δ1:=[sd (.str x),some (.ow ((dg n::r).map .str)),some (.ow []),none]) rfl (seq1 (δ1:=[sd (.str x),some (.ow ((dg n::r).map .str)),some (.ow (T.map ay)),y]) ?_ ?_)))) rfl
 ·
  rw [j7 (hsk _ (by simp)) (by omega)]
  have:dg n∈ones:=k6.mpr ⟨n,h1,h2,rfl⟩
  simp [this,hl]
 ·
  show eP _ _ inB _=_
  unfold eP
  rw [fB]
  exact lp
 ·
  rw [sfrz_e]
  show bH _ [sd (.str x),some (.ow ((dg n::r).map .str)),sd (.lst (T.map ay)),y]=_
  have i1:=int1 (a:=48+n) (f:=af oIx (ad 1) (ac (.int 0))) (δ:=[sd (.str x),some (.ow ((dg n::r).map .str)),sd (.lst (T.map ay)),y]) iU (by omega) (by omega)
  rw [show 48+n-48=n by omega] at i1
  have b2:(2:Nat)≤big:=by decide
  refine ret1 ?_ rfl
  have ea:aa (ao bT (aa (af oIx (ad 1) (ac (.int 0))) ah)) (aa (ad 2) ah) [sd (.str x),some (.ow ((dg n::r).map .str)),sd (.lst (T.map ay)),y]=some [.sh (.int (n:Int)),.sh (.lst (T.map ay))]:=by
   rw [aK,i1];rfl
  rw [dtup_e,ea]
  simp [b2,eJ]
theorem law_in_no (hs:sk x) (hx:x.length≤900) (e:aD x "; " = p0::r) (h:¬∃ (n:Nat) (T:List Tie),p0=dg n∧1≤n∧n≤8∧r.length≤14∧r.map (lt n)=T.map some):gw c [.str x]=some .non:=by
 have hsk:=kY hs e
 have hpart:=ey x "; "
 have hlen:=split_len x "; " (by decide)
 rw [e] at hpart hlen
 simp only [List.length_cons] at hlen
 refine cS (r:=.sh .non) rfl (seq1 (k7 hx e) ?_) rfl
 by_cases g:p0∈ones∧r.length≤14
 case neg=>exact stp (by rw [j7 (hsk _ (by simp)) (by omega)];simp [g])
 obtain ⟨n,n1,n8,rfl⟩:=k6.mp g.1
 refine skp (by rw [j7 (hsk _ (by simp)) (by omega)];simp [g]) (seq1 (δ1:=[sd (.str x),some (.ow ((dg n::r).map .str)),some (.ow []),none]) rfl ?_)
 have hb:∃ p∈r,lt n p=none:=by
  refine Classical.byContradiction fun z=>h ⟨n,r.map fun p=>(lt n p).getD (0,0),rfl,n1,n8,g.2,?_⟩
  rw [List.map_map]
  refine List.map_congr_left fun p hp=>?_
  cases q:lt n p with
  | none=>exact absurd ⟨p,hp,q⟩ z
  | some t=>simp [q]
 have lp:=in_no (e0:=sd (.str x)) (r0:=r.map .str) (n:=n) (by omega) r [] none (fun p hp=>⟨hsk p (by simp [hp]),Nat.le_trans (hpart p (by simp [hp])) hx⟩) (by simp;omega) hb
 rw [iE]
 have:eP (bb (bY (ad 1) (bR (ac (.int 1))) cc)) (aH 3) inB [sd (.str x),some (.ow ((dg n::r).map .str)),some (.ow []),none]=some (.rt (.sh .non)):=by
  unfold eP
  rw [fB]
  exact lp
 erw [this]
 rfl
theorem j8 {n:Nat} (hn:n≤8):∀ (r:List Str) (T:List Tie),r.map (lt n)=T.map some↔r.map rt=T.map some∧∀ t∈T,0≤t.1∧t.1<t.2∧t.2<n
 | [],[]=>by simp
 | [],t::T=>by simp
 | p::r,[]=>by simp
 | p::r,t::T=>by
  have:=j8 hn r T
  have h2:=lt_rt (p:=p) (t:=t) hn
  simp only [List.map_cons,List.cons.injEq,List.mem_cons,forall_eq_or_imp]
  rw [this,h2]
  constructor
  ·
   rintro ⟨⟨a,b⟩,c,d⟩;exact ⟨⟨a,c⟩,b,d⟩
  ·
   rintro ⟨⟨a,c⟩,b,d⟩;exact ⟨⟨a,b⟩,c,d⟩
theorem fY (hs:sk x) (hx:x.length≤900):bn c [.str x]=some (.bl true):=by
 obtain ⟨p0,r,e⟩:=iS x "; "
 refine cS (r:=.sh (.bl true)) (δ:=[sd (.str x),none,none]) rfl ?_ rfl
 by_cases g:∃ (n:Nat) (T:List Tie),p0=dg n∧1≤n∧n≤8∧r.length≤14∧r.map (lt n)=T.map some
 case neg=>
  have hi:=law_in_no c hs hx e g
  have hr:cM c [.str x]=some c.BadText:=read_x c hx e fun ⟨n,T,hn,hT,W⟩=>by
   obtain ⟨_,rfl⟩:=jZ hn
   obtain ⟨w1,w2,w3,w4⟩:=W
   have hTl:T.length=r.length:=by
    have:=congrArg List.length hT
    simpa using this.symm
   exact g ⟨n,T,rfl,by omega,by omega,by omega,(j8 (by omega) r T).mpr ⟨hT,w4⟩⟩
  refine seq1 (δ1:=[sd (.str x),sd .non,none]) (set1 (cs1 (a:=.str x) rfl hi) rfl rfl) ?_
  have q:=cs1 (m:=bp c) (f1:=ad 0) (δ:=[sd (.str x),sd .non,none]) (a:=.str x) rfl (gy c hr)
  rw [iE,dH]
  show (bH (aq 1 (bp c) (aa (ad 0) ah)) [sd (.str x),sd .non,none]).bind _=_
  rw [ret1 q rfl]
  rfl
 case pos=>
  obtain ⟨n,T,rfl,n1,n8,hl,hT⟩:=g
  have hi:=law_in_ok c hs hx e rfl n1 n8 hl hT
  obtain ⟨hT2,hW⟩:=(j8 n8 r T).mp hT
  have hTl:T.length=r.length:=by
   have:=congrArg List.length hT2
   simpa using this.symm
  have W:dN n T:=⟨by omega,by omega,by omega,hW⟩
  have hr:=read_ok c hx e (dv_dg (k:=n) (by omega)) hT2 W
  have hw:cT n T=x:=by
   have hj:=join_split x "; "
   rw [e] at hj
   have:T.map cE=r:=by
    have h3:(r.map rt).map (fun o=>cE (o.getD (0,0)))=T.map cE:=by rw [hT2,List.map_map];rfl
    rw [←h3,List.map_map]
    conv=>rhs;rw [←List.map_id r]
    refine List.map_congr_left fun p hp=>?_
    have:rt p∈T.map some:=by rw [←hT2];exact List.mem_map_of_mem hp
    obtain ⟨t,_,q⟩:=List.mem_map.mp this
    have:=(rt_form q.symm).1
    simp only [Function.comp_apply,←q,Option.getD_some,id]
    exact this.symm
   unfold cT
   rw [this]
   exact hj
  refine seq1 (δ1:=[sd (.str x),sT n T,none]) (set1 (cs1 (a:=.str x) rfl hi) rfl rfl) (skp (eZ (bs rfl rfl rfl)) (seq1 (δ1:=[sd (.str x),sT n T,sW c n T]) (set1 (r:=.sh (fF c n T)) ?_ rfl rfl) (ret1 ?_ rfl)))
  ·
   rw [dnw_e]
   have:g8 1 (iP c) (aa (ad 0) ah) [sd (.str x),sT n T,none]=some (fF c n T):=by
    unfold g8
    simp [hr]
   rw [this]
   rfl
  ·
   have b1:af oEq (dfld (isC c.Web) "points" (ad 2)) (af oIx (ad 1) (ac (.int 0))) [sd (.str x),sT n T,sW c n T]=some (.sh (.bl true)):=by
    refine bs (a:=.int n) (b:=.int n) (by simp [fF,jq]) (told_0 rfl) ?_
    rw [oEq_ii];simp
   have b2:af oEq (ez c.Web "ties" 1 (bL c) (ad 2) ah) (af oIx (ad 1) (ac (.int 1))) [sd (.str x),sT n T,sW c n T]=some (.sh (.bl true)):=
    bs (jr c rfl) (told_1 rfl) ((ET.oEqL (show max 1 1+1≤15 by decide) T T).trans (by simp))
   have b3:af oEq (aq 1 (dM c) (aa (ad 2) ah)) (ad 0) [sd (.str x),sT n T,sW c n T]=some (.sh (.bl true)):=by
    refine bs (cs1 rfl (iX c W)) (b:=.str x) rfl ?_
    rw [hw,oEq_str hs hs];simp
   simp only [dand_e,b1,b2,b3]
   rfl
end
theorem idx_len (lo hi:Option Int) (n:Nat):(Builtin.Str.strSliceIndices lo hi 1 n).length≤n:=by
 unfold Builtin.Str.strSliceIndices sliceRange
 simp only [List.length_map,List.length_range]
 cases lo <;> cases hi <;> simp <;> (repeat split) <;> omega
theorem j9 (x:Str) (lo hi:Option Int):(bq x lo hi).length≤x.length:=by
 unfold bq
 split
 ·
  exact Nat.le_refl _
 ·
  have h1:=idx_len lo hi x.length
  have h2:((Builtin.Str.strSliceIndices lo hi 1 x.length).filterMap (x.cps[·]?)).length≤(Builtin.Str.strSliceIndices lo hi 1 x.length).length:=List.length_filterMap_le _ _
  show (((Builtin.Str.strSliceIndices lo hi 1 x.length).filterMap (x.cps[·]?)).toArray).size≤_
  rw [List.size_toArray]
  omega
theorem cut_sk {x:Str} (h:sk x) (lo hi:Option Int):sk (bq x lo hi):=by
 unfold bq
 split
 ·
  exact h
 ·
  unfold sk PyData.strOk at h ⊢
  rw [Array.all_eq_true_iff_forall_mem] at h ⊢
  intro a ha
  simp only [List.mem_toArray] at ha
  obtain ⟨i,_,hi⟩:=List.mem_filterMap.mp ha
  exact h a (Array.mem_of_getElem? hi)
theorem k8 {f:FE} {fl fh:FO} {δ:DSt} {x:Str} {lo hi:Option Int} (h:f δ=some (.sh (.str x))) (h1:fl δ=some lo) (h2:fh δ=some hi) (hx:x.length≤900):cy f fl fh δ=some (.sh (.str (bq x lo hi))):=by
 have:=j9 x lo hi
 unfold cy
 rw [h,h1,h2]
 show (if (bq x lo hi).length≤1000 then _ else _)=_
 rw [if_pos (by omega)]
theorem ip {x y:Str} (hx:x.length≤900) (hy:y.length≤900):aC (.str x) (.str y)=some (.sh (.str (x++y))):=by
 show (if x.length+y.length≤big then _ else _)=_
 rw [if_pos (by rw [dB];omega)]
theorem sk_dg {k:Nat} (h:k<10):sk (dg k):=sk_one (by omega)
theorem sk_tieS {t:Tie} (h:tDig t):sk (cE t):=by
 unfold cE
 rw [b5,b5]
 exact ⟨⟨sk_dg (by have:=h.1;have:=h.2.1;omega),sk_dash⟩,sk_dg (by have:=h.2.2.1;have:=h.2.2.2;omega)⟩
theorem sk_webS {n:Int} {T:List Tie} (W:dN n T):sk (cT n T):=by
 refine join_sk (by decide +kernel) fun z hz=>?_
 rcases List.mem_cons.mp hz with rfl | hz
 ·
  exact sk_dg (by have:=W.1;have:=W.2.1;omega)
 ·
  obtain ⟨t,ht,rfl⟩:=List.mem_map.mp hz
  exact sk_tieS (j5 W t ht)
theorem text_eq {n:Int} {T:List Tie} (W:dN n T) {δ:DSt} (h:ad 1 δ=some (.sh (eJ n T))):de "; " (af aC (bz (aa (ao cW (aa (af oIx (ad 1) (ac (.int 0))) ah)) ah)) (bI (bb (af oIx (ad 1) (ac (.int 1)))) (gtup 2 (fG (aH 0) (fG (aH 1) gnil))) cn (af aC (af aC (ao cW (aa (ad 0) ah)) (ac (.str "-"))) (ao cW (aa (ad 1) ah))) 2 [])) δ=some (.sh (.str (cT n T))):=by
 have hl:=W.2.2.1
 have c1:=dr (fi:=bb (af oIx (ad 1) (ac (.int 1)))) (g:=gtup 2 (fG (aH 0) (fG (aH 1) gnil))) (t:=cn) (fe:=af aC (af aC (ao cW (aa (ad 0) ah)) (ac (.str "-"))) (ao cW (aa (ad 1) ah))) (m:=2) (ix:=[]) (δ:=δ) (items:=T.map ay) (by rw [gq,told_1 h];rfl) (by simp;omega) (da _ _ _ _ ay (fun _=>true) (fun t=>D.str (cE t)) T (fun t ht=>by
  obtain ⟨a1,a2,a3,a4⟩:=j5 W t ht
  refine ⟨[si t.1,si t.2],rfl,rfl,fun _=>⟨.sh (.str (cE t)),?_,rfl,rfl⟩⟩
  have s0:ao cW (aa (ad 0) ah) [si t.1,si t.2]=some (.sh (.str (dg t.1.toNat))):=by
   rw [bS];exact dO a1 a2
  have s1:ao cW (aa (ad 1) ah) [si t.1,si t.2]=some (.sh (.str (dg t.2.toNat))):=by
   rw [bS];exact dO a3 a4
  have l1:∀ k,(dg k).length=1:=fun _=>rfl
  have l2:("-" : Str).length=1:=by decide
  exact bs (bs s0 rfl (ip (by rw [l1];omega) (by rw [l2];omega))) s1 (ip (by rw [Str.length_append,l1,l2];omega) (by rw [l1];omega))))
 rw [List.filter_eq_self.2 (fun _ _=>rfl)] at c1
 have h0:ao cW (aa (af oIx (ad 1) (ac (.int 0))) ah) δ=some (.sh (.str (dg n.toNat))):=by
  rw [bS,aK,told_0 h]
  exact dO (by have:=W.1;omega) (by have:=W.2.1;omega)
 have b1:(1:Nat)≤big:=by decide
 have e1:bz (aa (ao cW (aa (af oIx (ad 1) (ac (.int 0))) ah)) ah) δ=some (.fr [.str (dg n.toNat)]):=by
  simp only [jS,aK,h0]
  simp [b1]
 refine jv W (r:=.fr ([.str (dg n.toNat)]++T.map fun t=>D.str (cE t))) (cN e1 c1 (show aC (.lst [D.str (dg n.toNat)]) (.lst (T.map fun t=>D.str (cE t)))=_ from ej _ _ (by simp;omega))) ?_
 simp [List.map_map]
def signs:Str:="0123456789;- x"
theorem gV:signs.length=14:=by decide +kernel
theorem signs_sk:sk signs:=by decide +kernel
theorem sign_ok {f:FE} {δ:DSt} {i:Int} (h:f δ=some (.sh (.int i))) (h0:0≤i) (h1:i<14):∃ z,af oCh (ac (.str "0123456789;- x")) f δ=some (.sh (.str z))∧sk z∧z.length≤1:=by
 have hlt:i.toNat<signs.cps.size:=by have:=gV;unfold Str.length at this;omega
 refine ⟨⟨#[signs.cps[i.toNat]]⟩,bs rfl h ?_,?_,?_⟩
 ·
  show (if 0≤i∧i<signs.length∧signs.length≤1000 then (signs.cps[i.toNat]?).map fun c=>R.sh (.str ⟨#[c]⟩) else none)=_
  rw [if_pos ⟨h0,by rw [gV];omega,by rw [gV];omega⟩,Array.getElem?_eq_getElem hlt]
  rfl
 ·
  have:=signs_sk
  unfold sk PyData.strOk at this
  rw [Array.all_eq_true_iff_forall_mem] at this
  have:=this _ (Array.getElem_mem hlt)
  exact sk_one (by simpa using this)
 ·
  show (1:Nat)≤1;omega
noncomputable def chB:FS:=(aL (sset 5 (aq 3 (ar c) (aa (af aC (ad 3) (ad 4)) (aa (ac (.int 1)) (aa (af aC (ao bK (aa (ad 2) ah)) (ac (.int 1))) ah))))) (aL (sset 6 (af oIx (ck (aa (ac (.str "")) (aa (af oCh (ac (.str "0123456789;- x")) (aq 3 (ar c) (aa (af aC (ad 3) (ad 4)) (aa (ac (.int 2)) (aa (ac (.int 14)) ah))))) ah))) (aq 3 (ar c) (aa (af aC (ad 3) (ad 4)) (aa (ac (.int 3)) (aa (ac (.int 2)) ah)))))) (sif (be (ap (aq 1 (bn c) (aa (af aC (af aC (cy (ad 2) cc (bR (ad 5))) (ad 6)) (cy (ad 2) (bR (af aC (ad 5) (aq 3 (ar c) (aa (af aC (ad 3) (ad 4)) (aa (ac (.int 4)) (aa (ac (.int 2)) ah)))))) cc)) ah)))) (bH (ac (.bl false))) aN)))
theorem ch_ok {e0 e1 e5 e6:Option E} {x:Str} {cell k:Int} (hs:sk x) (hx:x.length≤100):∃ y5 y6,chB c [e0,e1,sd (.str x),si cell,si k,e5,e6]=some (.nx [e0,e1,sd (.str x),si cell,si k,y5,y6]):=by
 have hlen:af aC (ao bK (aa (ad 2) ah)) (ac (.int 1)) [e0,e1,sd (.str x),si cell,si k,e5,e6]=some (.sh (.int (x.length+1))):=by
  refine bs (a:=.int x.length) ?_ rfl rfl
  rw [bS]
  show bK (.str x)=_
  unfold bK
  exact if_pos (by rw [dB];omega)
 obtain ⟨at',d1,a0,a1⟩:=eK c (fa:=af aC (ad 3) (ad 4)) (cell:=cell+k) 1 (by omega) rfl hlen (by omega)
 obtain ⟨r2,d2,b0,b1⟩:=eK c (fa:=af aC (ad 3) (ad 4)) (fm:=ac (.int 14)) (δ:=[e0,e1,sd (.str x),si cell,si k,si at',e6]) (cell:=cell+k) 2 (by omega) rfl rfl (by omega)
 obtain ⟨r3,d3,c0,c1⟩:=eK c (fa:=af aC (ad 3) (ad 4)) (fm:=ac (.int 2)) (δ:=[e0,e1,sd (.str x),si cell,si k,si at',e6]) (cell:=cell+k) 3 (by omega) rfl rfl (by omega)
 obtain ⟨z,d4,z1,z2⟩:=sign_ok d2 b0 b1
 obtain ⟨sg,hsg,s1,s2⟩ : ∃ sg,af oIx (ck (aa (ac (.str "")) (aa (af oCh (ac (.str "0123456789;- x")) (aq 3 (ar c) (aa (af aC (ad 3) (ad 4)) (aa (ac (.int 2)) (aa (ac (.int 14)) ah))))) ah))) (aq 3 (ar c) (aa (af aC (ad 3) (ad 4)) (aa (ac (.int 3)) (aa (ac (.int 2)) ah)))) [e0,e1,sd (.str x),si cell,si k,si at',e6]=some (.sh (.str sg))∧sk sg∧sg.length≤1:=by
  have b2:(2:Nat)≤big:=by decide
  have ht:ck (aa (ac (.str "")) (aa (af oCh (ac (.str "0123456789;- x")) (aq 3 (ar c) (aa (af aC (ad 3) (ad 4)) (aa (ac (.int 2)) (aa (ac (.int 14)) ah))))) ah)) [e0,e1,sd (.str x),si cell,si k,si at',e6]=some (.sh (.tup [.str "",.str z])):=by
   have ea:aa (ac (.str "")) (aa (af oCh (ac (.str "0123456789;- x")) (aq 3 (ar c) (aa (af aC (ad 3) (ad 4)) (aa (ac (.int 2)) (aa (ac (.int 14)) ah))))) ah) [e0,e1,sd (.str x),si cell,si k,si at',e6]=some [.sh (.str ""),.sh (.str z)]:=by
    rw [aK,dcon_e,Option.bind_some,aK,d4];rfl
   rw [dtup_e,ea]
   simp [b2]
  rcases (show r3=0∨r3=1 by omega) with rfl | rfl
  ·
   exact ⟨"",bs ht d3 (by simp [dJ]),by decide +kernel,by decide +kernel⟩
  ·
   exact ⟨z,bs ht d3 (by simp [eW]),z1,z2⟩
 obtain ⟨r4,d5,f0,f1⟩:=eK c (fa:=af aC (ad 3) (ad 4)) (fm:=ac (.int 2)) (δ:=[e0,e1,sd (.str x),si cell,si k,si at',sd (.str sg)]) (cell:=cell+k) 4 (by omega) rfl rfl (by omega)
 refine ⟨si at',sd (.str sg),?_⟩
 refine seq1 (δ1:=[e0,e1,sd (.str x),si cell,si k,si at',e6]) (set1 d1 rfl rfl) (seq1 (δ1:=[e0,e1,sd (.str x),si cell,si k,si at',sd (.str sg)]) (set1 hsg rfl rfl) ?_)
 have p1:cy (ad 2) cc (bR (ad 5)) [e0,e1,sd (.str x),si cell,si k,si at',sd (.str sg)]=some (.sh (.str (bq x none (some at')))):=k8 (x:=x) rfl rfl rfl (by omega)
 have p2:cy (ad 2) (bR (af aC (ad 5) (aq 3 (ar c) (aa (af aC (ad 3) (ad 4)) (aa (ac (.int 4)) (aa (ac (.int 2)) ah)))))) cc [e0,e1,sd (.str x),si cell,si k,si at',sd (.str sg)]=some (.sh (.str (bq x (some (at'+r4)) none))):=by
  refine k8 (x:=x) rfl ?_ rfl (by omega)
  have:af aC (ad 5) (aq 3 (ar c) (aa (af aC (ad 3) (ad 4)) (aa (ac (.int 4)) (aa (ac (.int 2)) ah)))) [e0,e1,sd (.str x),si cell,si k,si at',sd (.str sg)]=some (.sh (.int (at'+r4))):=bs (a:=.int at') rfl d5 rfl
  unfold bR
  rw [this]
  rfl
 have l1:=j9 x none (some at')
 have l2:=j9 x (some (at'+r4)) none
 have q:=bs (bs p1 (b:=.str sg) (fb:=ad 6) rfl (ip (by omega) (by omega))) p2 (ip (by rw [Str.length_append];omega) (by omega))
 have rr:=fY c (x:=bq x none (some at')++sg++bq x (some (at'+r4)) none) (by rw [b5,b5];exact ⟨⟨cut_sk hs _ _,s1⟩,cut_sk hs _ _⟩) (by rw [Str.length_append,Str.length_append];omega)
 rw [dH,not_t (eZ (cs1 q rr))]
 rfl
def fj:List Str:=["", "0", "1", "8", "9", "10", " 3", "3 ", "3;", "3; ", "3;0-1", "3; 0-1", "3; 1-0", "3; 0-0", "3; 0-3"]
def fZ:List Str:=["3; 0-1; 0-1", "3; 0-1;0-2", "3; 0-1; ", "3; 0--1", "3; 01-2", "3; 0 1", "3; 0-1\n", "3; a-b"]
def many (k:Nat):Str:=Str.join "; " ("2" :: List.replicate k "0-1")
def few3:List Str:=["3; 0-1;  1-2", "03; 0-1", "8; 0-7", "8; 0-8", "-3", "3, 0-1",many 14]
def few4:List Str:=[many 15, "3; 0-1-2", "3; +-1"]
def few:List Str:=fj++fZ++few3++few4
theorem few_ok:∀ t∈few,sk t∧t.length≤900:=by decide +kernel
theorem many_e (k:Nat) (hk:k≤15) (hj:(many k).length≤900) {δ:DSt}:de "; " (af aC (bz (aa (ac (.str "2")) ah)) (af bo (bz (aa (ac (.str "0-1")) ah)) (ac (.int k)))) δ=some (.sh (.str (many k))):=by
 have b1:(1:Nat)≤big:=by decide
 have e1:∀ z:Str,bz (aa (ac (.str z)) ah) δ=some (.fr [.str z]):=fun z=>by simp [b1]
 have e2:bo (.lst [.str "0-1"]) (.int k)=some (.fr (List.replicate k (.str "0-1"))):=by
  show (if (k:Int)≤1000∧-1000≤(k:Int)∧[D.str "0-1"].length*(k:Int).toNat≤big then some (R.fr (List.replicate (k:Int).toNat [D.str "0-1"]).flatten) else none)=_
  rw [if_pos ⟨by omega,by omega,by rw [dB];simp;omega⟩,Int.toNat_natCast]
  congr 2
  clear hk hj
  induction k with
  | zero=>rfl
  | succ k ih=>rw [List.replicate_succ,List.flatten_cons,ih,List.replicate_succ];rfl
 refine j4 (r:=.fr ([.str "2"]++List.replicate k (.str "0-1"))) (ts:="2" :: List.replicate k "0-1") (cN (e1 "2") (cN (e1 "0-1") rfl e2) (show aC (.lst [D.str "2"]) (.lst (List.replicate k (D.str "0-1")))=_ from ej _ _ (by simp;omega))) ?_ (by decide) (by simp;omega) (fun t ht=>?_) ?_
 ·
  show D.lst _=_
  simp
 ·
  rcases List.mem_cons.mp ht with rfl | ht
  ·
   decide +kernel
  ·
   rw [List.eq_of_mem_replicate ht];decide +kernel
 ·
  show (many k).length≤1000
  omega
theorem few_eq:cx c []=some (.lst (few.map .str)):=by
 have b15:(15:Nat)≤big:=by decide
 have b8:(8:Nat)≤big:=by decide
 have b7:(7:Nat)≤big:=by decide
 have b3:(3:Nat)≤big:=by decide
 refine cS (r:=.fr (few.map .str)) rfl (seq1 (δ1:=[some (.ow (fj.map .str))]) (set1 (r:=.fr (fj.map .str)) (by simp [b15,fj]) rfl rfl) (seq1 (δ1:=[some (.ow ((fj++fZ).map .str))]) (set1 (r:=.fr ((fj++fZ).map .str)) ?_ rfl rfl) (seq1 (δ1:=[some (.ow ((fj++fZ++few3).map .str))]) (set1 (r:=.fr ((fj++fZ++few3).map .str)) ?_ rfl rfl) (ret1 ?_ rfl)))) rfl
 ·
  refine cN (a:=.bw (fj.map .str)) (b:=.fr (fZ.map .str)) rfl (by simp [b8,fZ]) ?_
  rw [List.map_append]
  exact ej _ _ (by decide)
 ·
  refine cN (a:=.bw ((fj++fZ).map .str)) (b:=.fr (few3.map .str)) rfl ?_ ?_
  ·
   have m:=many_e 14 (by omega) (by decide +kernel) (δ:=[some (.ow ((fj++fZ).map .str))])
   have ea:(aa (ac (.str "3; 0-1;  1-2")) (aa (ac (.str "03; 0-1")) (aa (ac (.str "8; 0-7")) (aa (ac (.str "8; 0-8")) (aa (ac (.str "-3")) (aa (ac (.str "3, 0-1")) (aa (de "; " (af aC (bz (aa (ac (.str "2")) ah)) (af bo (bz (aa (ac (.str "0-1")) ah)) (ac (.int 14))))) ah))))))) [some (.ow ((fj++fZ).map .str))]=some (few3.map fun t=>.sh (.str t)):=by
    simp only [aK,dcon_e,Option.bind_some]
    erw [m]
    rfl
   rw [jS,ea]
   simp [b7,few3]
  ·
   rw [List.map_append (l₁:=fj++fZ)]
   exact ej _ _ (by decide)
 ·
  refine cN (a:=.bw ((fj++fZ++few3).map .str)) (b:=.fr (few4.map .str)) rfl ?_ ?_
  ·
   have m:=many_e 15 (by omega) (by decide +kernel) (δ:=[some (.ow ((fj++fZ++few3).map .str))])
   have ea:(aa (de "; " (af aC (bz (aa (ac (.str "2")) ah)) (af bo (bz (aa (ac (.str "0-1")) ah)) (ac (.int 15))))) (aa (ac (.str "3; 0-1-2")) (aa (ac (.str "3; +-1")) ah))) [some (.ow ((fj++fZ++few3).map .str))]=some (few4.map fun t=>.sh (.str t)):=by
    rw [aK]
    erw [m]
    rfl
   rw [jS,ea]
   simp [b3,few4]
  ·
   unfold few
   rw [List.map_append (l₁:=fj++fZ++few3)]
   exact ej _ _ (by decide)
def things:List D:=[.non,.int 3,.lst [.str "3"],.bl true]
theorem law_true (K:Frag):∀ ns:List Int,ns.length≤63→m_law c K ns=some (.bl true):=by
 intro ns _
 obtain ⟨v0,hv0⟩:=fV c K ns (k:=0) (by omega)
 obtain ⟨v1,hv1⟩:=fV c K ns (k:=1) (by omega)
 obtain ⟨v2,hv2⟩:=fV c K ns (k:=2) (by omega)
 obtain ⟨n,T,ht,W,_⟩:=told_eq c (v0+31*v1) 1 (by omega) (by omega)
 have hs:=sk_webS W
 have hx:=kZ (n:=n) W.2.2.1
 have hr:F_law c K [some (.scr K ns),none,none,none,none,none,none]=some (.rt (.sh (.bl true))):=by
  refine seq1 (δ1:=[some (.scr K ns),sT n T,none,none,none,none,none]) (set1 (cs2 (bs (eu c rfl hv0) (bs rfl (eu c rfl hv1) (mulL (by omega) (by omega))) rfl) rfl ht) rfl rfl) ?_
  refine seq1 (δ1:=[some (.scr K ns),sT n T,sd (.str (cT n T)),none,none,none,none]) (set1 (text_eq W rfl) rfl rfl) ?_
  refine skp ?_ ?_
  ·
   have d2:dnw (gt c.Web 2 (br c) (aa (af oIx (ad 1) (ac (.int 0))) (aa (af oIx (ad 1) (ac (.int 1))) ah))) [some (.scr K ns),sT n T,sd (.str (cT n T)),none,none,none,none]=some (.sh (fF c n T)):=by
    rw [dnw_e]
    erw [kP c W (r1:=.sh (.int n)) (r2:=.sh (.lst (T.map ay))) (by rw [aK,told_0 (f:=ad 1) rfl,Option.bind_some,aK,told_1 (f:=ad 1) rfl];rfl) rfl rfl rfl rfl]
    rfl
   have t1:=eZ (bs (cs1 d2 (iX c W)) (b:=.str (cT n T)) (fb:=ad 2) rfl ((oNe_str hs hs).trans (by simp:_=some (R.sh (.bl false)))))
   have t2:=not_t (eZ (cs1 (m:=bn c) (f1:=ad 2) (δ:=[some (.scr K ns),sT n T,sd (.str (cT n T)),none,none,none,none]) (a:=.str (cT n T)) rfl (fY c hs (by omega))))
   rw [gJ,t1,t2]
   rfl
  refine seq1 (δ1:=[some (.scr K ns),sT n T,sd (.str (cT n T)),si (v2+7*v0),none,none,none]) (set1 (r:=.sh (.int (v2+7*v0))) (bs (eu c rfl hv2) (bs rfl (eu c rfl hv0) (mulL (by omega) (by omega))) rfl) rfl rfl) ?_
  obtain ⟨y5,y6,h1⟩:=ch_ok c (e0:=some (.scr K ns)) (e1:=sT n T) (e5:=none) (e6:=none) (cell:=v2+7*v0) (k:=0+((0:Nat):Int)) hs (by omega)
  obtain ⟨z5,z6,h2⟩:=ch_ok c (e0:=some (.scr K ns)) (e1:=sT n T) (e5:=y5) (e6:=y6) (cell:=v2+7*v0) (k:=0+((1:Nat):Int)) hs (by omega)
  refine seq1 (δ1:=[some (.scr K ns),sT n T,sd (.str (cT n T)),si (v2+7*v0),si (0+((1:Nat):Int)),z5,z6]) ?_ ?_
  ·
   show eP _ _ (chB c) _=_
   unfold eP
   rw [rngE (f:=ac (.int 2)) (j:=2) rfl (by omega) (by omega)]
   rw [show ((List.range (Int.toNat 2)).map fun (k:Nat)=>D.int (0+(k:Int)))=[D.int (0+((0:Nat):Int)),D.int (0+((1:Nat):Int))] from rfl]
   simp only [Option.bind_some]
   unfold cY
   show (chB c [some (.scr K ns),sT n T,sd (.str (cT n T)),si (v2+7*v0),si (0+((0:Nat):Int)),none,none]).bind _=_
   rw [h1]
   simp only [Option.bind_some,io]
   unfold cY
   show (chB c [some (.scr K ns),sT n T,sd (.str (cT n T)),si (v2+7*v0),si (0+((1:Nat):Int)),y5,y6]).bind _=_
   rw [h2]
   rfl
  refine skp ?_ (ret1 ?_ rfl)
  ·
   have hi:bb (aq 0 (cx c) ah) [some (.scr K ns),sT n T,sd (.str (cT n T)),si (v2+7*v0),si (0+((1:Nat):Int)),z5,z6]=some (few.map .str):=by
    have:aq 0 (cx c) ah [some (.scr K ns),sT n T,sd (.str (cT n T)),si (v2+7*v0),si (0+((1:Nat):Int)),z5,z6]=some (.sh (.lst (few.map .str))):=by
     simp only [ij,gK,Option.bind_some,ik,List.map_nil,few_eq]
     simp
    rw [gq,this]
    rfl
   have c1:=dr (fi:=bb (aq 0 (cx c) ah)) (g:=aH 0) (t:=cn) (fe:=aq 1 (bn c) (aa (ad 0) ah)) (m:=1) (ix:=[]) hi (by decide) (da _ _ _ _ D.str (fun _=>true) (fun _=>D.bl true) few (fun t ht=>by
    refine ⟨_,rfl,rfl,fun _=>⟨.sh (.bl true),?_,rfl,rfl⟩⟩
    exact cs1 (a:=.str t) rfl (fY c (few_ok t ht).1 (few_ok t ht).2)))
   rw [List.filter_eq_self.2 (fun _ _=>rfl)] at c1
   have a1:=all_true (f:=aa (bI (bb (aq 0 (cx c) ah)) (aH 0) cn (aq 1 (bn c) (aa (ad 0) ah)) 1 []) ah) (δ:=[some (.scr K ns),sT n T,sd (.str (cT n T)),si (v2+7*v0),si (0+((1:Nat):Int)),z5,z6]) (xs:=few) (by rw [aK,c1];rfl)
   exact not_t (eZ a1)
  ·
   have b4:(4:Nat)≤big:=by decide
   have b1:(1:Nat)≤big:=by decide
   have hi:bb (bz (aa (ac .non) (aa (ac (.int 3)) (aa (bz (aa (ac (.str "3")) ah)) (aa (ac (.bl true)) ah))))) [some (.scr K ns),sT n T,sd (.str (cT n T)),si (v2+7*v0),si (0+((1:Nat):Int)),z5,z6]=some (things.map id):=by
    simp [gq,b4,b1,things]
   have hn:∀ d∈things,dW d=some false:=by
    intro d hd
    simp [things] at hd
    rcases hd with rfl | rfl | rfl | rfl <;> rfl
   have c1:=dr (fi:=bb (bz (aa (ac .non) (aa (ac (.int 3)) (aa (bz (aa (ac (.str "3")) ah)) (aa (ac (.bl true)) ah)))))) (g:=aH 0) (t:=cn) (fe:=aq 1 (bp c) (aa (ad 0) ah)) (m:=1) (ix:=[]) hi (by decide) (da _ _ _ _ id (fun _=>true) (fun _=>D.bl true) things (fun d hd=>by
    refine ⟨_,rfl,rfl,fun _=>⟨.sh (.bl true),?_,rfl,rfl⟩⟩
    exact cs1 (a:=d) rfl (gy c (read_no c (hn d hd)))))
   rw [List.filter_eq_self.2 (fun _ _=>rfl)] at c1
   exact all_true (xs:=things) (by rw [aK,c1];rfl)
 unfold m_law runL
 have e:F_law c K (some (.scr K ns)::List.replicate (7-1) none)=some (.rt (.sh (.bl true))):=hr
 rw [e]
 rfl
end Pg
end
section
set_option maxHeartbeats 0
lay_quick PySem.Challenge.rw_earworks_k08_written
namespace Hx
open PySem PySem.W L2
noncomputable abbrev Pf:Program:=(PySem.W.Fast.tw2368527892694137696 PySem.W.Fast.tw9250680014250697729).toRowW.1
noncomputable def U (i:Nat):Stmt:=Pf.main.body.getD i (.Pass ⟨0,0,0,0⟩)
noncomputable def M (i j:Nat):Stmt:=inClass (U i) j
abbrev vI:=@Value.int
abbrev vR:=@Value.ref
abbrev vS:=@Value.str
abbrev vN:=Value.none
abbrev vT:=@Value.type
abbrev vB:=@Value.bool
abbrev vU:=@Value.builtin
abbrev kH:=@PyData.keyHash
abbrev dE:=@DictEntry.mk
abbrev d_A:=@defArgs
abbrev d_B:=@defBody
abbrev d_S:=@defScope
noncomputable abbrev y0:String:=PySem.W.SL.s2766695959194262286x5
noncomputable abbrev y1:String:=PySem.W.SL.s5856160107412720595x4
noncomputable abbrev y2:String:=PySem.W.SL.s658472552662922059x5
noncomputable abbrev y3:String:=PySem.W.SL.s14018661285674007319x4
noncomputable abbrev y4:String:=PySem.W.SL.s7097527257260152453x26
noncomputable abbrev y5:String:=PySem.W.SL.s6070975301684473832x10
noncomputable abbrev y6:String:=PySem.W.SL.s11030030927630378310x26
noncomputable abbrev y7:String:=PySem.W.SL.s10062305145149207511x16
noncomputable abbrev y8:String:=PySem.W.SL.s17162191345867700912x4
noncomputable abbrev y9:String:=PySem.W.SL.s5946037652744460706x9
noncomputable abbrev y10:String:=PySem.W.SL.s4278001404047624695x13
noncomputable abbrev y11:String:=PySem.W.SL.s2742458400755230247x6
noncomputable abbrev y12:String:=PySem.W.SL.s4209523147560561109x18
noncomputable abbrev y13:String:=PySem.W.SL.s14755015743595814543x17
noncomputable abbrev y14:String:=PySem.W.SL.s10220274742760427390x26
noncomputable abbrev y15:String:=PySem.W.SL.s4290257624100764138x5
noncomputable abbrev y16:String:=PySem.W.SL.s4860613602091757760x24
noncomputable abbrev y17:String:=PySem.W.SL.s7174869446012820540x8
noncomputable abbrev y18:String:=PySem.W.SL.s11443829558043349243x14
noncomputable abbrev y19:String:=PySem.W.SL.s6511155373996960695x17
noncomputable abbrev y20:String:=PySem.W.SL.s12411053484034534018x21
def zS (l:List Nat):Str:=⟨⟨l⟩⟩
def z0:=zS [60,109,111,100,117,108,101,62]
def z1:=zS [47,99,108,97,105,109,47,99,117,116,46,112,121]
def z2:=zS [95,95,109,97,105,110,95,95]
def z3:=zS [95,95,110,97,109,101,95,95]
def z4:=zS [101,97,114,119,111,114,107,115,46,101,114,114,111,114,115]
def z5:=zS [95,95,100,111,99,95,95]
def z6:=zS [95,95,112,97,99,107,97,103,101,95,95]
def z7:=zS [95,95,108,111,97,100,101,114,95,95]
def z8:=zS [95,95,115,112,101,99,95,95]
def z9:=zS [95,95,97,110,110,111,116,97,116,105,111,110,115,95,95]
def z10:=zS [95,95,98,117,105,108,116,105,110,115,95,95]
def z11:=zS [95,95,102,105,108,101,95,95]
def z12:=zS [95,95,99,97,99,104,101,100,95,95]
def z13:=zS [87,101,98,69,114,114,111,114]
def z14:=zS [95,95,109,111,100,117,108,101,95,95]
def z15:=zS [95,95,113,117,97,108,110,97,109,101,95,95]
def z16:=zS [95,95,102,105,114,115,116,108,105,110,101,110,111,95,95]
def z17:=zS [95,95,115,116,97,116,105,99,95,97,116,116,114,105,98,117,116,101,115,95,95]
def z18:=zS [95,95,119,101,97,107,114,101,102,95,95]
def z19:=zS [66,97,100,87,101,98]
def z20:=zS [84,111,111,70,101,119]
def z21:=zS [66,97,100,80,111,105,110,116]
def z22:=zS [66,97,100,67,111,117,110,116]
def z23:=zS [84,105,101,100]
def z24:=zS [101,97,114,119,111,114,107,115,46,119,101,98,115]
def z25:=zS [66,97,100,84,101,120,116]
def z26:=zS [105,115,95,110,117,109,98,101,114]
def z27:=zS [77,79,83,84,95,80,79,73,78,84,83]
def z28:=zS [77,79,83,84,95,84,73,69,83]
def z29:=zS [105,115,95,116,105,101]
def z30:=zS [118,97,108,117,101]
def z31:=zS [101,97,114,119,111,114,107,115,46,98,97,115,105,99,115]
def z32:=zS [112,111,105,110,116,115]
def z33:=zS [101,97,114,119,111,114,107,115,46,116,101,120,116,115]
def z34:=zS [87,101,98]
def z35:=zS [68,73,71,73,84,83]
def z36:=zS [119,114,105,116,116,101,110,95,116,105,101]
def z37:=zS [119,114,105,116,116,101,110]
def z38:=zS [114,101,97,100,95,110,117,109,98,101,114]
def z39:=zS [114,101,97,100,95,116,105,101]
def z40:=zS [95,95,105,110,105,116,95,95]
def z41:=zS [116,105,101,115]
def z42:=zS [87,101,98,46,95,95,105,110,105,116,95,95]
def z43:=zS [115,101,108,102]
def z44:=zS [87,101,98,46,116,105,101,115]
def z45:=zS [112,97,105,114,115]
def z46:=zS [95,95,100,105,99,116,95,95]
def z47:=zS [48]
def z48:=zS [49]
def z49:=zS [50]
def z50:=zS [51]
def z51:=zS [52]
def z52:=zS [53]
def z53:=zS [54]
def z54:=zS [55]
def z55:=zS [56]
def z56:=zS [57]
def z57:=zS [116,101,120,116]
def z58:=zS [101,110,100,115]
def z59:=zS [108,97,119,95,101,97,114,119,111,114,107,115,95,107,48,56,95,119,114,105,116,116,101,110]
def z60:=zS [114,101,97,100]
def z61:=zS [95,108,97,119,95,99,101,108,108,95,97,116]
def z62:=zS [95,108,97,119,95,100,114,97,119]
def z63:=zS [95,108,97,119,95,116,111,108,100]
def z64:=zS [95,108,97,119,95,108,101,97,118,105,110,103]
def z65:=zS [95,108,97,119,95,114,105,115,105,110,103]
def z66:=zS [95,108,97,119,95,105,110]
def z67:=zS [95,108,97,119,95,114,101,102,117,115,101,100]
def z68:=zS [95,108,97,119,95,114,105,103,104,116]
def z69:=zS [95,108,97,119,95,102,101,119]
def z70:=zS [108,97,119]
def z71:=zS [95,108,97,119,95,115,99,114,105,112,116]
def z72:=zS [95,108,97,119,95,107]
def z73:=zS [95,108,97,119,95,99,101,108,108]
def z74:=zS [95,108,97,119,95,109,97,110,121]
def z75:=zS [95,108,97,119,95,112,114,105,109,101,115]
def z76:=zS [95,108,97,119,95,108,101,97,115,116]
def z77:=zS [95,108,97,119,95,112,111,105,110,116,115]
def z78:=zS [95,108,97,119,95,107,105,110,100]
def z79:=zS [95,108,97,119,95,116,105,101,115]
def z80:=zS [95,108,97,119,95,116,117,114,110]
def z81:=zS [95,108,97,119,95,111,110,101]
def z82:=zS [95,108,97,119,95,111,116,104,101,114]
def z83:=zS [95,108,97,119,95,109,111,115,116]
def z84:=zS [95,108,97,119,95,115,111,109,101]
def z85:=zS [95,108,97,119,95,108,97,115,116]
def z86:=zS [95,108,97,119,95,112,111,105,110,116]
def z87:=zS [95,108,97,119,95,116,101,120,116]
def z88:=zS [95,108,97,119,95,112,97,114,116,115]
def z89:=zS [95,108,97,119,95,112,97,114,116]
def z90:=zS [101,114,114,111,114]
def z91:=zS [95,108,97,119,95,111,116,104,101,114,115]
def z92:=zS [95,108,97,119,95,100,117,101]
def z93:=zS [95,108,97,119,95,102,111,117,110,100]
noncomputable def oT (l:List Value):Params→Obj:=fun _=>Obj.mk (vT y0) none (.seq l.toArray 0) #[]
noncomputable def oF (l:List Value):Params→Obj:=fun _=>Obj.mk vN none (.fields l.toArray) #[]
noncomputable def oC (a:Str) (a':Nat) (b:Str) (b' c:Nat) (d:Int) (e f:Int) (h:Nat) (i:Bool) (j k l m:Nat) (n o:Int) (p:Nat):Params→Obj:=fun _=>Obj.mk (vT y1) none (.fields #[vS a a',vS b b',vS z1 c,vI d 0,vI e 0,vI 0 0,vI 0 0,vI f 0,vR h,vB i,vI 181 0,vR j,vN,vR k,vR l,vR m,vI n 0,vI o 0,vS z1 p]) #[]
noncomputable def oG (a b:Str) (s:Stmt):Params→Obj:=fun _=>Obj.mk vN none (.func (FuncData.mk a b (d_A s) (.stmts (d_B s)) (d_S s) 0 [] vN vN vN vN none vN vN 0)) #[]
def ev {α:Type}:List α→List α
 | []=>[]
 | [x]=>[x]
 | x::_::r=>x::ev r
def od {α:Type}:List α→List α
 | []=>[]
 | [_]=>[]
 | _::y::r=>y::od r
def bt (P:Params):Nat→List (Params→Obj)→BT
 | 0,_=>.nil
 | _+1,[]=>.nil
 | f+1,x::xs=>.node (x P) (bt P f (ev xs)) (bt P f (od xs))
noncomputable def oW (y:String) (l:List Value):Params→Obj:=fun _=>Obj.mk (vT y) none (.fields l.toArray) #[]
noncomputable def oE (a b:Nat) (z:Str) (k:Nat):Params→Obj:=fun _=>Obj.mk (vT y2) none .plain #[some (vR a),some (vR 3),some (vR b),none,some (vS z k),none,some (vR 0)]
noncomputable def oB (a:Str) (a':Nat) (b:Str) (b' c:Nat) (d e f:Int) (h:Nat) (i:Bool) (j:Nat) (x y z:Value) (n o:Int) (p:Nat):Params→Obj:=fun _=>Obj.mk (vT y1) none (.fields #[vS a a',vS b b',vS z1 c,vI d 0,vI e 0,vI 0 0,vI 0 0,vI f 0,vR h,vB i,vI 181 0,vR j,vN,x,y,z,vI n 0,vI o 0,vS z1 p]) #[]
noncomputable def oL (x:Option Value) (z:Str) (b m:List Value) (n:Nat) (s:List Value) (i j:Nat) (y:String):Params→Obj:=fun _=>Obj.mk (vT y8) none (.cls (ClassData.mk z b m n z true [] s false none false)) #[x,none,some (vS z i),some (vS z j),some (vU y),some (vB true)]
def eE (P:Params) (z:Str) (k:Nat) (v:Value):DictEntry:=dE (kH P z) (vS z k) v
noncomputable def oD (n:Nat) (l:Params→List DictEntry):Params→Obj:=fun P=>Obj.mk (vT y3) none (.dict (l P).toArray n) #[]
noncomputable def l0:List (Params→Obj):=[boot_o_0,boot_o_1,boot_o_2,boot_o_3,boot_o_4,boot_o_5,boot_o_6,boot_o_7,boot_o_8,boot_o_9,boot_o_10,oT [],oF [],oB z0 182 z0 183 184 1 0 0 11 false 12 vN vN vN 185 1 186,oE 13 3 z2 164]
noncomputable def t0 (P:Params):BT:=bt P 10 l0
noncomputable def e1 (P:Params):List DictEntry:=[eE P z3 165 (vS z4 187),eE P z5 166 vN,eE P z6 167 vN,eE P z7 168 (vU y4),eE P z8 169 vN,eE P z9 170 (vR 6),eE P z10 171 (vR 4),eE P z11 173 (vS z1 172),eE P z12 174 vN,eE P z13 206 (vR 24)]
noncomputable def f1:List Value:=[vI 2 0,vI 0 0,vR 20]
noncomputable def l1:List (Params→Obj):=((l0.set 3 (oD 10 e1)).set 12 (oF f1))++([oT [vT y5],oW y6 [vU y7,vT y8],oD 4 fun P=>[eE P z14 196 (vS z4 187),eE P z15 198 (vS z13 197),eE P z16 200 (vI 2 199),eE P z17 201 (vR 22)],oT [],oF [],oB z13 191 z13 192 193 2 0 0 18 false 19 vN vN vN 194 2 195,oE 20 17 z4 187,oT [],oD 3 fun P=>[eE P z14 196 (vS z4 187),eE P z16 200 (vI 2 199),eE P z17 201 (vR 22),eE P z18 203 (vR 25),eE P z5 204 vN],oL (some (vR 15)) z13 [vT y5] [vR 24,vT y5,vT y9,vT y10,vT y11] 23 [] 189 197 y12,oW y13 [vS z18 202,vR 24,vU y14,vN],oW y15 [vR 24,vR 24,vR 24],oW y6 [vU y16,vR 24]])
noncomputable def t1 (P:Params):BT:=bt P 10 l1
noncomputable def e2 (P:Params):List DictEntry:=e1 P++[eE P z19 222 (vR 37)]
noncomputable def f2:List Value:=f1++[vI 4 0,vI 0 0,vR 33]
noncomputable def l2:List (Params→Obj):=(((l1.set 3 (oD 11 e2)).set 12 (oF f2)).set 24 (oL (some (vR 15)) z13 [vT y5] [vR 24,vT y5,vT y9,vT y10,vT y11] 23 [vR 37] 189 197 y12))++([oT [vR 24],oW y6 [vU y7,vT y8],oD 4 fun P=>[eE P z14 214 (vS z4 187),eE P z15 216 (vS z19 215),eE P z16 218 (vI 4 217),eE P z17 219 (vR 35)],oT [],oF [],oB z19 209 z19 210 211 4 0 0 31 false 32 vN vN vN 212 4 213,oE 33 30 z4 187,oT [],oD 2 fun P=>[eE P z14 214 (vS z4 187),eE P z16 218 (vI 4 217),eE P z17 219 (vR 35),eE P z5 220 vN],oL (some (vR 28)) z19 [vR 24] [vR 37,vR 24,vT y5,vT y9,vT y10,vT y11] 36 [] 207 215 y12,oW y15 [vR 37,vR 37,vR 37],oW y6 [vU y16,vR 37]])
noncomputable def t2 (P:Params):BT:=bt P 10 l2
noncomputable def e3 (P:Params):List DictEntry:=e2 P++[eE P z20 238 (vR 49)]
noncomputable def f3:List Value:=f2++[vI 6 0,vI 0 0,vR 45]
noncomputable def l3:List (Params→Obj):=(((l2.set 3 (oD 12 e3)).set 12 (oF f3)).set 24 (oL (some (vR 15)) z13 [vT y5] [vR 24,vT y5,vT y9,vT y10,vT y11] 23 [vR 37,vR 49] 189 197 y12))++([oT [vR 24],oW y6 [vU y7,vT y8],oD 4 fun P=>[eE P z14 230 (vS z4 187),eE P z15 232 (vS z20 231),eE P z16 234 (vI 6 233),eE P z17 235 (vR 47)],oT [],oF [],oB z20 225 z20 226 227 6 0 0 43 false 44 vN vN vN 228 6 229,oE 45 42 z4 187,oT [],oD 2 fun P=>[eE P z14 230 (vS z4 187),eE P z16 234 (vI 6 233),eE P z17 235 (vR 47),eE P z5 236 vN],oL (some (vR 40)) z20 [vR 24] [vR 49,vR 24,vT y5,vT y9,vT y10,vT y11] 48 [] 223 231 y12,oW y15 [vR 49,vR 49,vR 49],oW y6 [vU y16,vR 49]])
noncomputable def t3 (P:Params):BT:=bt P 10 l3
noncomputable def e4 (P:Params):List DictEntry:=e3 P++[eE P z21 254 (vR 61)]
noncomputable def f4:List Value:=f3++[vI 8 0,vI 0 0,vR 57]
noncomputable def l4:List (Params→Obj):=(((l3.set 3 (oD 13 e4)).set 12 (oF f4)).set 24 (oL (some (vR 15)) z13 [vT y5] [vR 24,vT y5,vT y9,vT y10,vT y11] 23 [vR 37,vR 49,vR 61] 189 197 y12))++([oT [vR 24],oW y6 [vU y7,vT y8],oD 4 fun P=>[eE P z14 246 (vS z4 187),eE P z15 248 (vS z21 247),eE P z16 250 (vI 8 249),eE P z17 251 (vR 59)],oT [],oF [],oB z21 241 z21 242 243 8 0 0 55 false 56 vN vN vN 244 8 245,oE 57 54 z4 187,oT [],oD 2 fun P=>[eE P z14 246 (vS z4 187),eE P z16 250 (vI 8 249),eE P z17 251 (vR 59),eE P z5 252 vN],oL (some (vR 52)) z21 [vR 24] [vR 61,vR 24,vT y5,vT y9,vT y10,vT y11] 60 [] 239 247 y12,oW y15 [vR 61,vR 61,vR 61],oW y6 [vU y16,vR 61]])
noncomputable def t4 (P:Params):BT:=bt P 10 l4
noncomputable def e5 (P:Params):List DictEntry:=e4 P++[eE P z22 270 (vR 73)]
noncomputable def f5:List Value:=f4++[vI 10 0,vI 0 0,vR 69]
noncomputable def l5:List (Params→Obj):=(((l4.set 3 (oD 14 e5)).set 12 (oF f5)).set 24 (oL (some (vR 15)) z13 [vT y5] [vR 24,vT y5,vT y9,vT y10,vT y11] 23 [vR 37,vR 49,vR 61,vR 73] 189 197 y12))++([oT [vR 24],oW y6 [vU y7,vT y8],oD 4 fun P=>[eE P z14 262 (vS z4 187),eE P z15 264 (vS z22 263),eE P z16 266 (vI 10 265),eE P z17 267 (vR 71)],oT [],oF [],oB z22 257 z22 258 259 10 0 0 67 false 68 vN vN vN 260 10 261,oE 69 66 z4 187,oT [],oD 2 fun P=>[eE P z14 262 (vS z4 187),eE P z16 266 (vI 10 265),eE P z17 267 (vR 71),eE P z5 268 vN],oL (some (vR 64)) z22 [vR 24] [vR 73,vR 24,vT y5,vT y9,vT y10,vT y11] 72 [] 255 263 y12,oW y15 [vR 73,vR 73,vR 73],oW y6 [vU y16,vR 73]])
noncomputable def t5 (P:Params):BT:=bt P 10 l5
noncomputable def e6 (P:Params):List DictEntry:=e5 P++[eE P z23 286 (vR 85)]
noncomputable def f6:List Value:=f5++[vI 12 0,vI 0 0,vR 81]
noncomputable def l6:List (Params→Obj):=(((l5.set 3 (oD 15 e6)).set 12 (oF f6)).set 24 (oL (some (vR 15)) z13 [vT y5] [vR 24,vT y5,vT y9,vT y10,vT y11] 23 [vR 37,vR 49,vR 61,vR 73,vR 85] 189 197 y12))++([oT [vR 24],oW y6 [vU y7,vT y8],oD 4 fun P=>[eE P z14 278 (vS z4 187),eE P z15 280 (vS z23 279),eE P z16 282 (vI 12 281),eE P z17 283 (vR 83)],oT [],oF [],oB z23 273 z23 274 275 12 0 0 79 false 80 vN vN vN 276 12 277,oE 81 78 z4 187,oT [],oD 2 fun P=>[eE P z14 278 (vS z4 187),eE P z16 282 (vI 12 281),eE P z17 283 (vR 83),eE P z5 284 vN],oL (some (vR 76)) z23 [vR 24] [vR 85,vR 24,vT y5,vT y9,vT y10,vT y11] 84 [] 271 279 y12,oW y15 [vR 85,vR 85,vR 85],oW y6 [vU y16,vR 85]])
noncomputable def t6 (P:Params):BT:=bt P 10 l6
noncomputable def e7 (P:Params):List DictEntry:=(e6 P).set 0 (eE P z3 165 (vS z24 312))++[eE P z25 302 (vR 97),eE P z26 311 (vR 106),eE P z27 315 (vI 8 314),eE P z28 317 (vI 14 316),eE P z29 325 (vR 113)]
noncomputable def f7:List Value:=f6++[vI 14 0,vI 0 0,vR 93,vI 17 0,vI 0 0,vR 105,vI 22 0,vI 0 0,vR 112]
noncomputable def l7:List (Params→Obj):=(((l6.set 3 (oD 20 e7)).set 12 (oF f7)).set 24 (oL (some (vR 15)) z13 [vT y5] [vR 24,vT y5,vT y9,vT y10,vT y11] 23 [vR 37,vR 49,vR 61,vR 73,vR 85,vR 97] 189 197 y12))++([oT [vR 24],oW y6 [vU y7,vT y8],oD 4 fun P=>[eE P z14 294 (vS z4 187),eE P z15 296 (vS z25 295),eE P z16 298 (vI 14 297),eE P z17 299 (vR 95)],oT [],oF [],oB z25 289 z25 290 291 14 0 0 91 false 92 vN vN vN 292 14 293,oE 93 90 z4 187,oT [],oD 2 fun P=>[eE P z14 294 (vS z4 187),eE P z16 298 (vI 14 297),eE P z17 299 (vR 95),eE P z5 300 vN],oL (some (vR 88)) z25 [vR 24] [vR 97,vR 24,vT y5,vT y9,vT y10,vT y11] 96 [] 287 295 y12,oW y15 [vR 97,vR 97,vR 97],oW y6 [vU y16,vR 97],oT [],oF [],oT [vS z30 308],oT [],oG z26 z26 (U 9),oC z26 305 z26 306 307 17 1 3 100 true 101 102 103 104 309 17 310,fun _=>Obj.mk (vT y17) none (.func (FuncData.mk z26 z26 (d_A (U 9)) (.stmts (d_B (U 9))) (d_S (U 9)) 3 [] vN vN vN (vS z31 303) none (vR 105) vN 0)) #[],oT [],oF [],oT [vS z30 321,vS z32 322],oT [],oG z29 z29 (U 13),oC z29 318 z29 319 320 22 2 3 107 true 108 109 110 111 323 22 324,fun _=>Obj.mk (vT y17) none (.func (FuncData.mk z29 z29 (d_A (U 13)) (.stmts (d_B (U 13))) (d_S (U 13)) 3 [] vN vN vN (vS z24 312) none (vR 112) vN 0)) #[]])
noncomputable def t7 (P:Params):BT:=bt P 10 l7
noncomputable def e8 (P:Params):List DictEntry:=(e7 P).set 0 (eE P z3 165 (vS z33 361))++[eE P z34 360 (vR 135),eE P z35 373 (vR 140),eE P z36 379 (vR 145),eE P z37 385 (vR 150),eE P z38 392 (vR 157),eE P z39 400 (vR 164)]
noncomputable def f8:List Value:=f7++[vI 26 0,vI 0 0,vR 119,vI 42 0,vI 0 0,vR 144,vI 44 0,vI 0 0,vR 149,vI 46 0,vI 0 0,vR 156,vI 50 0,vI 0 0,vR 163]
noncomputable def l8:List (Params→Obj):=((l7.set 3 (oD 26 e8)).set 12 (oF f8))++([oT [],oW y6 [vU y7,vT y8],oD 6 fun P=>[eE P z14 333 (vS z24 312),eE P z15 335 (vS z34 334),eE P z16 337 (vI 26 336),eE P z40 343 (vR 125),eE P z41 350 (vR 132),eE P z17 353 (vR 133)],oT [],oF [vI 28 0,vI 4 0,vR 124,vI 38 0,vI 4 0,vR 131],oB z34 328 z34 329 330 26 0 0 117 false 118 vN vN vN 331 26 332,oE 119 116 z24 312,oT [],oF [],oG z40 z42 (M 14 0),oB z40 338 z42 339 340 28 3 3 121 true 122 vN vN (vR 123) 341 28 342,fun _=>Obj.mk (vT y17) none (.func (FuncData.mk z40 z42 (d_A (M 14 0)) (.stmts (d_B (M 14 0))) (d_S (M 14 0)) 3 [] vN vN vN (vS z24 312) none (vR 124) vN 0)) #[],oT [],oF [],oT [vS z43 347],oT [],oG z41 z44 (M 14 1),oC z41 344 z44 345 346 38 1 3 126 true 127 128 129 130 348 38 349,fun _=>Obj.mk (vT y17) none (.func (FuncData.mk z41 z44 (d_A (M 14 1)) (.stmts (d_B (M 14 1))) (d_S (M 14 1)) 3 [] vN vN vN (vS z24 312) none (vR 131) vN 0)) #[],oT [vS z45 351,vS z32 352],oD 4 fun P=>[eE P z14 333 (vS z24 312),eE P z16 337 (vI 26 336),eE P z40 343 (vR 125),eE P z41 350 (vR 132),eE P z17 353 (vR 133),eE P z46 355 (vR 136),eE P z18 357 (vR 137),eE P z5 358 vN],oL none z34 [vT y11] [vR 135,vT y11] 134 [] 326 334 y18,oW y13 [vS z46 354,vR 135,vU y19,vU y20],oW y13 [vS z18 356,vR 135,vU y14,vN],oW y15 [vR 135,vR 135,vR 135],oW y6 [vU y16,vR 135],oT [vS z47 363,vS z48 364,vS z49 365,vS z50 366,vS z51 367,vS z52 368,vS z53 369,vS z54 370,vS z55 371,vS z56 372],oT [],oF [],oG z36 z36 (U 17),oB z36 374 z36 375 376 42 1 3 141 true 142 vN vN (vR 143) 377 42 378,fun _=>Obj.mk (vT y17) none (.func (FuncData.mk z36 z36 (d_A (U 17)) (.stmts (d_B (U 17))) (d_S (U 17)) 3 [] vN vN vN (vS z33 361) none (vR 144) vN 0)) #[],oT [],oF [],oG z37 z37 (U 18),oB z37 380 z37 381 382 44 1 3 146 true 147 vN vN (vR 148) 383 44 384,fun _=>Obj.mk (vT y17) none (.func (FuncData.mk z37 z37 (d_A (U 18)) (.stmts (d_B (U 18))) (d_S (U 18)) 3 [] vN vN vN (vS z33 361) none (vR 149) vN 0)) #[],oT [],oF [],oT [vS z57 389],oT [],oG z38 z38 (U 19),oC z38 386 z38 387 388 46 1 3 151 true 152 153 154 155 390 46 391,fun _=>Obj.mk (vT y17) none (.func (FuncData.mk z38 z38 (d_A (U 19)) (.stmts (d_B (U 19))) (d_S (U 19)) 3 [] vN vN vN (vS z33 361) none (vR 156) vN 0)) #[],oT [],oF [],oT [vS z57 396,vS z58 397],oT [],oG z39 z39 (U 20),oC z39 393 z39 394 395 50 1 3 158 true 159 160 161 162 398 50 399,fun _=>Obj.mk (vT y17) none (.func (FuncData.mk z39 z39 (d_A (U 20)) (.stmts (d_B (U 20))) (d_S (U 20)) 3 [] vN vN vN (vS z33 361) none (vR 163) vN 0)) #[]])
noncomputable def t8 (P:Params):BT:=bt P 10 l8
noncomputable def e9 (P:Params):List DictEntry:=(e8 P).set 0 (eE P z3 165 (vS z59 407))++[eE P z60 406 (vR 169),eE P z61 416 (vR 176),eE P z62 426 (vR 183),eE P z63 442 (vR 190),eE P z64 448 (vR 195),eE P z65 458 (vR 202),eE P z66 468 (vR 209),eE P z67 477 (vR 216),eE P z68 486 (vR 223),eE P z69 493 (vR 230),eE P z70 499 (vR 235)]
noncomputable def f9:List Value:=f8++[vI 55 0,vI 0 0,vR 168,vI 66 0,vI 0 0,vR 175,vI 70 0,vI 0 0,vR 182,vI 73 0,vI 0 0,vR 189,vI 95 0,vI 0 0,vR 194,vI 97 0,vI 0 0,vR 201,vI 106 0,vI 0 0,vR 208,vI 118 0,vI 0 0,vR 215,vI 126 0,vI 0 0,vR 222,vI 132 0,vI 0 0,vR 229,vI 137 0,vI 0 0,vR 234]
noncomputable def l9:List (Params→Obj):=((l8.set 3 (oD 37 e9)).set 12 (oF f9))++([oT [],oF [],oG z60 z60 (U 21),oB z60 401 z60 402 403 55 1 3 165 true 166 vN vN (vR 167) 404 55 405,fun _=>Obj.mk (vT y17) none (.func (FuncData.mk z60 z60 (d_A (U 21)) (.stmts (d_B (U 21))) (d_S (U 21)) 3 [] vN vN vN (vS z33 361) none (vR 168) vN 0)) #[],oT [],oF [],oT [vS z71 412,vS z72 413],oT [],oG z61 z61 (U 23),oC z61 409 z61 410 411 66 2 3 170 true 171 172 173 174 414 66 415,fun _=>Obj.mk (vT y17) none (.func (FuncData.mk z61 z61 (d_A (U 23)) (.stmts (d_B (U 23))) (d_S (U 23)) 3 [] vN vN vN (vS z59 407) none (vR 175) vN 0)) #[],oT [],oF [],oT [vS z73 420,vS z72 421,vS z74 422,vS z75 423],oT [],oG z62 z62 (U 24),oC z62 417 z62 418 419 70 3 3 177 true 178 179 180 181 424 70 425,fun _=>Obj.mk (vT y17) none (.func (FuncData.mk z62 z62 (d_A (U 24)) (.stmts (d_B (U 24))) (d_S (U 24)) 3 [] vN vN vN (vS z59 407) none (vR 182) vN 0)) #[],oT [],oF [],oT [vS z73 430,vS z76 431,vS z77 432,vS z78 433,vS z79 434,vS z80 435,vS z72 436,vS z81 437,vS z82 438,vS z83 439],oT [],oG z63 z63 (U 25),oC z63 427 z63 428 429 73 2 3 184 true 185 186 187 188 440 73 441,fun _=>Obj.mk (vT y17) none (.func (FuncData.mk z63 z63 (d_A (U 25)) (.stmts (d_B (U 25))) (d_S (U 25)) 3 [] vN vN vN (vS z59 407) none (vR 189) vN 0)) #[],oT [],oF [],oG z64 z64 (U 26),oB z64 443 z64 444 445 95 2 3 191 true 192 vN vN (vR 193) 446 95 447,fun _=>Obj.mk (vT y17) none (.func (FuncData.mk z64 z64 (d_A (U 26)) (.stmts (d_B (U 26))) (d_S (U 26)) 3 [] vN vN vN (vS z59 407) none (vR 194) vN 0)) #[],oT [],oF [],oT [vS z84 452,vS z77 453,vS z85 454,vS z86 455],oT [],oG z65 z65 (U 27),oC z65 449 z65 450 451 97 2 3 196 true 197 198 199 200 456 97 457,fun _=>Obj.mk (vT y17) none (.func (FuncData.mk z65 z65 (d_A (U 27)) (.stmts (d_B (U 27))) (d_S (U 27)) 3 [] vN vN vN (vS z59 407) none (vR 201) vN 0)) #[],oT [],oF [],oT [vS z87 462,vS z88 463,vS z79 464,vS z89 465],oT [],oG z66 z66 (U 28),oC z66 459 z66 460 461 106 1 3 203 true 204 205 206 207 466 106 467,fun _=>Obj.mk (vT y17) none (.func (FuncData.mk z66 z66 (d_A (U 28)) (.stmts (d_B (U 28))) (d_S (U 28)) 3 [] vN vN vN (vS z59 407) none (vR 208) vN 0)) #[],oT [],oF [],oT [vS z87 472,vS z90 473,vS z91 474],oT [],oG z67 z67 (U 29),oC z67 469 z67 470 471 118 1 3 210 true 211 212 213 214 475 118 476,fun _=>Obj.mk (vT y17) none (.func (FuncData.mk z67 z67 (d_A (U 29)) (.stmts (d_B (U 29))) (d_S (U 29)) 3 [] vN vN vN (vS z59 407) none (vR 215) vN 0)) #[],oT [],oF [],oT [vS z87 481,vS z92 482,vS z93 483],oT [],oG z68 z68 (U 30),oC z68 478 z68 479 480 126 1 3 217 true 218 219 220 221 484 126 485,fun _=>Obj.mk (vT y17) none (.func (FuncData.mk z68 z68 (d_A (U 30)) (.stmts (d_B (U 30))) (d_S (U 30)) 3 [] vN vN vN (vS z59 407) none (vR 222) vN 0)) #[],oT [],oF [],oT [vS z84 490],oT [],oG z69 z69 (U 31),oC z69 487 z69 488 489 132 0 3 224 true 225 226 227 228 491 132 492,fun _=>Obj.mk (vT y17) none (.func (FuncData.mk z69 z69 (d_A (U 31)) (.stmts (d_B (U 31))) (d_S (U 31)) 3 [] vN vN vN (vS z59 407) none (vR 229) vN 0)) #[],oT [],oF [],oG z70 z70 (U 32),oB z70 494 z70 495 496 137 1 3 231 true 232 vN vN (vR 233) 497 137 498,fun _=>Obj.mk (vT y17) none (.func (FuncData.mk z70 z70 (d_A (U 32)) (.stmts (d_B (U 32))) (d_S (U 32)) 3 [] vN vN vN (vS z59 407) none (vR 234) vN 0)) #[]])
noncomputable def t9 (P:Params):BT:=bt P 10 l9
noncomputable abbrev BB:List Stmt:=behindTheImports Pf
noncomputable abbrev EE:Env:={ scope:=Pf.main.scope,locals:=mainNs,globals:=mainNs,cells:=[],code:=.ref 13,frame:=some 14 }
theorem pc {tb:String→Option Builtin} {p:Program} {w:World} {n₀:Nat} {ann:Option Value} {env:Env} {q:Pos} {n N k m:Nat} {s s':SharedT} {r:Shared} {b:List Stmt} {c:Code} {pos p':Pos}
  (h:segRunT tb p w n₀ ann 1 n s (piecesOf ((b.drop k).take m) env c pos [topFrame q])=some (.next,s',c,p')) (K:topRun tb p w n₀ ann N s'.abs (restOf (b.drop (k+m)) env c p' [topFrame q])=some r) :
  topRun tb p w n₀ ann (n+N) s.abs (restOf (b.drop k) env c pos [topFrame q])=some r:=by
 have h2:=piece_app (rest:=b.drop (k+m)) (segRun_of h) K
 rwa [←List.drop_drop,List.take_append_drop] at h2
noncomputable def Ha (P:Params):Heap:=⟨⟨l0.map (· P)⟩,{}⟩
noncomputable def H1 (P:Params):Heap:=⟨⟨l9.map (· P)⟩,{}⟩
theorem pre (w:World) (os:OsState):topGo treeTable Pf w 11 (some (.ref 6)) 12 ⟨boot_heap w.params,⟨[]⟩,boot_drawn,boot_toks,os⟩ (topStub Pf)=some (⟨Ha w.params,⟨[]⟩,{},187,os⟩,⟨denote treeTable (.body BB EE),.body BB EE,⟨0,0,0,0⟩,[topFrame ⟨0,0,0,0⟩]⟩):=by
 rw [Fast.te15667345088766844465,Fast.te11892475500146522536,Fast.te14364793385576792824];kernel_rfl
theorem blk (w:World) (os:OsState):segRun treeTable Pf w 11 (some (.ref 6)) 1 1 ⟨Ha w.params,⟨[]⟩,{},187,os⟩ (blockOf BB EE (.body BB EE) ⟨0,0,0,0⟩ [topFrame ⟨0,0,0,0⟩])=some (.next,SharedT.abs ⟨t0 w.params,15,{},⟨[]⟩,{},187,os⟩,.body BB EE,⟨0,0,0,0⟩):=by
 rw [Fast.te14374325043358763698,Fast.te14364793385576792824];kernel_rfl
abbrev Sx (i:BT) (n k:Nat) (os:OsState):SharedT:=⟨i,n,{},⟨[]⟩,{},k,os⟩
abbrev QQ (w:World) (n:Nat) (a:SharedT) (k m:Nat) (p:Pos) (b:SharedT) (q:Pos):Prop:=segRunT treeTable Pf w 11 (some (.ref 6)) 1 n a (piecesOf ((BB.drop k).take m) EE (.body BB EE) p [topFrame ⟨0,0,0,0⟩])=some (.next,b,.body BB EE,q)
theorem q0 (w:World) (os:OsState):QQ w 196 (Sx (t0 w.params) 15 187 os) 0 2 ⟨0,0,0,0⟩ (Sx (t1 w.params) 28 207 os) ⟨2,0,3,8⟩:=by
 unfold QQ;rw [Fast.te10110043849684766642,Fast.te14364793385576792824];kernel_rfl
theorem q1 (w:World) (os:OsState):QQ w 214 (Sx (t1 w.params) 28 207 os) 2 1 ⟨2,0,3,8⟩ (Sx (t2 w.params) 40 223 os) ⟨4,0,5,8⟩:=by
 unfold QQ;rw [Fast.te10110043849684766642,Fast.te14364793385576792824];kernel_rfl
theorem q2 (w:World) (os:OsState):QQ w 214 (Sx (t2 w.params) 40 223 os) 3 1 ⟨4,0,5,8⟩ (Sx (t3 w.params) 52 239 os) ⟨6,0,7,8⟩:=by
 unfold QQ;rw [Fast.te10110043849684766642,Fast.te14364793385576792824];kernel_rfl
theorem q3 (w:World) (os:OsState):QQ w 214 (Sx (t3 w.params) 52 239 os) 4 1 ⟨6,0,7,8⟩ (Sx (t4 w.params) 64 255 os) ⟨8,0,9,8⟩:=by
 unfold QQ;rw [Fast.te10110043849684766642,Fast.te14364793385576792824];kernel_rfl
theorem q4 (w:World) (os:OsState):QQ w 214 (Sx (t4 w.params) 64 255 os) 5 1 ⟨8,0,9,8⟩ (Sx (t5 w.params) 76 271 os) ⟨10,0,11,8⟩:=by
 unfold QQ;rw [Fast.te10110043849684766642,Fast.te14364793385576792824];kernel_rfl
theorem q5 (w:World) (os:OsState):QQ w 214 (Sx (t5 w.params) 76 271 os) 6 1 ⟨10,0,11,8⟩ (Sx (t6 w.params) 88 287 os) ⟨12,0,13,8⟩:=by
 unfold QQ;rw [Fast.te10110043849684766642,Fast.te14364793385576792824];kernel_rfl
theorem q6 (w:World) (os:OsState):QQ w 309 (Sx (t6 w.params) 88 287 os) 7 7 ⟨12,0,13,8⟩ (Sx (t7 w.params) 114 326 os) ⟨22,0,25,94⟩:=by
 unfold QQ;rw [Fast.te10110043849684766642,Fast.te14364793385576792824];kernel_rfl
theorem q7 (w:World) (os:OsState):QQ w 391 (Sx (t7 w.params) 114 326 os) 14 7 ⟨22,0,25,94⟩ (Sx (t8 w.params) 165 401 os) ⟨50,0,54,55⟩:=by
 unfold QQ;rw [Fast.te10110043849684766642,Fast.te14364793385576792824];kernel_rfl
theorem q8 (w:World) (os:OsState):QQ w 343 (Sx (t8 w.params) 165 401 os) 21 12 ⟨50,0,54,55⟩ (Sx (t9 w.params) 236 500 os) ⟨137,0,150,83⟩:=by
 unfold QQ;rw [Fast.te10110043849684766642,Fast.te14364793385576792824];kernel_rfl
theorem fin (w:World) (os:OsState):topRun treeTable Pf w 11 (some (.ref 6)) 2 (SharedT.abs ⟨t9 w.params,236,{},⟨[]⟩,{},500,os⟩) ⟨doneF .next,.body BB EE,⟨137,0,150,83⟩,[topFrame ⟨0,0,0,0⟩]⟩=some ⟨H1 w.params,⟨[]⟩,{},500,os⟩:=by
 rw [Fast.te14082659384304107361,Fast.te14364793385576792824];kernel_rfl
theorem nil0:BB.drop 33=[]:=by kernel_rfl
theorem fin1 (w:World) (os:OsState):topRun treeTable Pf w 11 (some (.ref 6)) 2 (SharedT.abs ⟨t9 w.params,236,{},⟨[]⟩,{},500,os⟩) (restOf (BB.drop 33) EE (.body BB EE) ⟨137,0,150,83⟩ [topFrame ⟨0,0,0,0⟩])=some ⟨H1 w.params,⟨[]⟩,{},500,os⟩:=by
 rw [nil0];exact piece_nil (fin w os)
theorem run (w:World) (os:OsState):topRun treeTable Pf w 11 (some (.ref 6)) (12+(1+(196+(214+(214+(214+(214+(214+(309+(391+(343+(2)))))))))))) ⟨boot_heap w.params,⟨[]⟩,boot_drawn,boot_toks,os⟩ (topStub Pf)=some ⟨H1 w.params,⟨[]⟩,{},500,os⟩:=
 go_top (pre w os) (piece_block (blk w os) (pc (q0 w os) (pc (q1 w os) (pc (q2 w os) (pc (q3 w os) (pc (q4 w os) (pc (q5 w os) (pc (q6 w os) (pc (q7 w os) (pc (q8 w os) (fin1 w os)))))))))))
def kp:List Nat:=[1,2,3,4,5,6,7,9,11,12,13,14,16,17,18,19,20,21,23,24,25,26,27,28,29,30,31,32]
def qv (p:Program):Program:={ p with main:={ p.main with body:=kp.filterMap fun i=>p.main.body[i]? } }
noncomputable abbrev QF:Program:=qv Pf
noncomputable def g (a:Nat) (P:Params):Obj:=(l9.getD a boot_o_0) P
noncomputable def KK:Params→Frag:=fun P=>(nat_lit 2,g 2 P)::(nat_lit 3,g 3 P)::(nat_lit 23,g 23 P)::(nat_lit 24,oL (some (vR 15)) z13 [vT y5] [vR 24,vT y5,vT y9,vT y10,vT y11] 23 [vR 37,vR 49,vR 61,vR 73,vR 85,vR 97] 189 197 y12 P)::(nat_lit 36,g 36 P)::(nat_lit 37,oL (some (vR 28)) z19 [vR 24] [vR 37,vR 24,vT y5,vT y9,vT y10,vT y11] 36 [] 207 215 y12 P)::(nat_lit 48,g 48 P)::(nat_lit 49,oL (some (vR 40)) z20 [vR 24] [vR 49,vR 24,vT y5,vT y9,vT y10,vT y11] 48 [] 223 231 y12 P)::(nat_lit 60,g 60 P)::(nat_lit 61,oL (some (vR 52)) z21 [vR 24] [vR 61,vR 24,vT y5,vT y9,vT y10,vT y11] 60 [] 239 247 y12 P)::(nat_lit 72,g 72 P)::(nat_lit 73,oL (some (vR 64)) z22 [vR 24] [vR 73,vR 24,vT y5,vT y9,vT y10,vT y11] 72 [] 255 263 y12 P)::(nat_lit 84,g 84 P)::(nat_lit 85,oL (some (vR 76)) z23 [vR 24] [vR 85,vR 24,vT y5,vT y9,vT y10,vT y11] 84 [] 271 279 y12 P)::(nat_lit 96,g 96 P)::(nat_lit 97,oL (some (vR 88)) z25 [vR 24] [vR 97,vR 24,vT y5,vT y9,vT y10,vT y11] 96 [] 287 295 y12 P)::(nat_lit 105,g 105 P)::(nat_lit 106,g 106 P)::(nat_lit 112,g 112 P)::(nat_lit 113,g 113 P)::(nat_lit 124,g 124 P)::(nat_lit 125,g 125 P)::(nat_lit 131,g 131 P)::(nat_lit 132,g 132 P)::(nat_lit 134,g 134 P)::(nat_lit 135,oL none z34 [vT y11] [vR 135,vT y11] 134 [] 326 334 y18 P)::(nat_lit 140,g 140 P)::(nat_lit 144,g 144 P)::(nat_lit 145,g 145 P)::(nat_lit 149,g 149 P)::(nat_lit 150,g 150 P)::(nat_lit 156,g 156 P)::(nat_lit 157,g 157 P)::(nat_lit 163,g 163 P)::(nat_lit 164,g 164 P)::(nat_lit 168,g 168 P)::(nat_lit 169,g 169 P)::(nat_lit 175,g 175 P)::(nat_lit 176,g 176 P)::(nat_lit 182,g 182 P)::(nat_lit 183,g 183 P)::(nat_lit 186,g 186 P)::(nat_lit 189,g 189 P)::(nat_lit 190,g 190 P)::(nat_lit 208,g 208 P)::(nat_lit 209,g 209 P)::(nat_lit 215,g 215 P)::(nat_lit 216,g 216 P)::(nat_lit 222,g 222 P)::(nat_lit 223,g 223 P)::(nat_lit 229,g 229 P)::(nat_lit 230,g 230 P)::(nat_lit 234,g 234 P)::(nat_lit 235,g 235 P)::[]
def ads:List Addr:=[2,3,23,24,36,37,48,49,60,61,72,73,84,85,96,97,105,106,112,113,124,125,131,132,134,135,140,144,145,149,150,156,157,163,164,168,169,175,176,182,183,186,189,190,208,209,215,216,222,223,229,230,234,235]
theorem adsE:∀ P,ads=(KK P).map (·.1):=fun P=>by kernel_rfl
noncomputable abbrev Hk:Hook:=kHook KK ads adsE
theorem k1 (w:World) (os:OsState):(staticsOk (importedModules Pf.main.body) (boot_heap w.params) (H1 w.params)&&namesBound Pf (H1 w.params)&&gensDone ⟨H1 w.params,⟨[]⟩,{},500,os⟩&&laidKept (boot_heap w.params) (H1 w.params))=true:=by
 rw [Fast.te5923862056798008813];kernel_rfl
theorem k2 (w:World) (os:OsState):openSeen QF [] (importedModules Pf.main.body) (fun s=>xlAt QF [] s&&recOk (RowW.records PySem.Challenge.rw_earworks_k08_written.row.toRowW) s) true ⟨H1 w.params,⟨[]⟩,{},500,os⟩=openGood QF []:=by
 unfold openSeen openGood
 refine looks_pair ?_ (looks_pair ?_ (looks_pair ?_ (looks_pair ?_ (looks_pair ?_ (looks_pair ?_ (looks_pair ?_ (looks_pair ?_ ?_)))))))
 ·
  rw [Fast.te5160383126252970620,Fast.te3399658132070893891,Fast.te5991557255702980513,PySem.W.R.mapR_eq];kernel_rfl
 ·
  kernel_rfl
 ·
  rw [Fast.te10880121769531294198,Fast.te821141287760084731,Fast.te3399658132070893891,Fast.te7409074990110511671,Fast.te13664370479719496447,PySem.W.R.mapR_eq,Fast.te14722251495701143533,Fast.te5923862056798008813,Fast.te10994771534591457954];kernel_rfl
 ·
  rw [Fast.te479339242167458305];kernel_rfl
 ·
  rw [Fast.te16090120013241838585,Fast.te3247288618530077131];kernel_rfl
 ·
  rw [Fast.te2386780881361962483,Fast.te821141287760084731];kernel_rfl
 ·
  rw [Fast.te11698064438423848299];kernel_rfl
 ·
  rw [Fast.te7317090234206586261];kernel_rfl
 ·
  rw [Fast.te7369524293546568484];kernel_rfl
theorem k3 (w:World) (os:OsState):Hk.obs ⟨H1 w.params,⟨[]⟩,{},500,os⟩=Hk.val w:=by kernel_rfl
theorem sz (w:World):((boot_heap w.params).isNs mainGlobals&&(⟨[]⟩ : Array GenState).size==0,(boot_heap w.params).objs.size,(boot_heap w.params).nsMap mainGlobals "__annotations__")=(true,11,some (.ref 6)):=by
 rw [Fast.te8920871248978507458,show ("__annotations__" : Str)=⟨⟨[95,95,97,110,110,111,116,97,116,105,111,110,115,95,95]⟩⟩ from Fast.ofString_ofList ['_','_','a','n','n','o','t','a','t','i','o','n','s','_','_']];kernel_rfl
theorem leftF:LeftO Pf QF [] (fun s=>xlAt QF [] s&&recOk (RowW.records PySem.Challenge.rw_earworks_k08_written.row.toRowW) s) (Hook.obs Hk) (Hook.val Hk) 4726:=
 LeftO.of_pieces (boot_open (by kernel_rfl) (by decide) (fun s=>by kernel_rfl)) sz run (by decide) fun w=>funext fun os=>looks_pair (k1 w os) (looks_pair (k2 w os) (k3 w os))
theorem ePf:PySem.Challenge.rw_earworks_k08_written.row.prog=Pf:=by
 show (PySem.Challenge.rw_earworks_k08_written.row).toRowW.1=_
 rw [Fast.te2368527892694137696,Fast.te9250680014250697729]
theorem te (i:Nat):Pg.top i=U i:=by
 show (PySem.Challenge.rw_earworks_k08_written.row.prog).main.body.getD i _=_
 rw [ePf];rfl
theorem te2 (i j:Nat):inClass (Pg.top i) j=M i j:=by
 unfold M;rw [te i]
end Hx
end
set_option maxHeartbeats 0
theorem Ew.fx0 {K:Frag} {x qual zx zq:PySem.Str} {st st':PySem.Stmt} {f:PySem.Addr} {oc:PySem.Value} {od an:Option PySem.Addr} {osl:Array (Option PySem.Value)} {kV doc pm cdv ct:PySem.Value} (es:st=st') (e1:nsIn K PySem.mainGlobals x=some (some (.ref f))) (e2:K.lookup f=some ⟨oc,od,.func (fnOf zx zq (L2.defArgs st') (L2.defBody st') (L2.defScope st') .none kV doc pm an cdv ct),osl⟩) (e3:codeIn K cdv qual=true) (e4:keepIn K (.ref f)=true)
 (h:Ew.Bnd x qual st []:=by exact fun _ _ _ _ _ _ us hl=>match us,hl with | [],_=>rfl) (ex:x=zx:=by kernel_rfl) (eq:qual=zq:=by kernel_rfl):Ew.Fx K x qual st []:=Ew.fx2 es e1 e2 e3 e4 h ex eq
theorem Ew.na_mk {K:Frag} {C:PySem.Addr} {f:PySem.Str} (h:findIn K (.ref C) f=some none):L2.NoAttr K C f:=h
theorem Ew.cn_mk {K:Frag} {mg:PySem.Str→Option PySem.Value} {h:PySem.Heap} (KX:K.In h) (G:h.Ns PySem.mainGlobals mg) {x:PySem.Str} {z:Int} {t:PySem.Tok} (e:nsIn K PySem.mainGlobals x=some (some (.int z t))):∃ t,mg x=some (.int z t):=⟨t,mg_of KX G e⟩
open PySem PySem.W PyProof.Rows
theorem PySem.Challenge.cw_earworks_k08_written_holds : PySem.Challenge.rw_earworks_k08_written.Holds := by
 w_on;o_law
 refine holds_open (q:=(Hx.qv PySem.Challenge.rw_earworks_k08_written.row.prog)) (loose:=[]) (Xt:=(fun s=>xlAt (Hx.qv PySem.Challenge.rw_earworks_k08_written.row.prog) [] s&&recOk (RowW.records PySem.Challenge.rw_earworks_k08_written.row.toRowW) s)) (XP:=XL (Hx.qv PySem.Challenge.rw_earworks_k08_written.row.prog) []) (Yf:=Hook.obs (kHook Hx.KK Hx.ads Hx.adsE)) (Ya:=Hook.val (kHook Hx.KK Hx.ads Hx.adsE)) (YP:=Hook.says (kHook Hx.KK Hx.ads Hx.adsE)) (N:=4726) ?hl (Hook.of _) (Hook.keeps _) (fun s e=>xl_of s (Bool.and_eq_true_iff.mp e).1) XL.keeps (by rfl) (by rfl) (by rfl) (fun s e=>recFacts_of (Bool.and_eq_true_iff.mp e).2) (by rfl) (by first | assumption | decide +kernel) (by decide +kernel) ⟨rfl,rfl,rfl,rfl,rfl,by decide +kernel⟩ ?hw ?hc
 case hl=>rw [Hx.ePf];exact Hx.leftF
 case hw=>w_witness2
 k_fill
 refine L2.walk_ofK (l:=PySem.Challenge.rw_earworks_k08_written) (n:=63) (k:=8) (x:="_law_script") (CX:=L2.CX0) (sp:=Ew.spLaw) rfl (by decide) rfl ⟨rfl,by decide,by decide⟩ (fun w h Y=>kIn_of Y) ?F ?S ?C
 case F=>
  intro w mg fa h KX G hmg
  have T:∃ c,Nonempty (Pg.Txt (L2.KOf KX) mg c):=by
   dsimp only [L2.KOf]
   refine' Pg.Txt.go ?t
   case' t=>constructor
   all_goals ((try dsimp only);first | refine' Ew.xd_mk KX G ?_ ?_ | refine' Ew.xo_mk ?_ ?_ ?_ ?_ ?_ ?_ ?_ ?_ | refine' Ew.kit_subT ?_ | refine' Ew.kit_sub ?_ ?_ ?_ ?_ | refine' Ew.exm_mk ?_ ?_ ?_ ?_ | refine' Ew.cd_mk KX G ?_ ?_ ?_ ?_ ?_ | refine' mg_none_of KX G ?_ | refine' Ew.cn_mk KX G ?_ | refine' Ew.Fd.of KX G (Ew.fx2 (Hx.te _) ?_ ?_ ?_ ?_) | refine' Ew.Md.of (Ew.fm2 (Hx.te2 _ _) ?_ ?_ ?_ ?_ ?_) | refine' Ew.Ni.of (Ew.fm2 (Hx.te2 _ _) ?_ ?_ ?_ ?_ ?_) ?_ ?_ | refine' Ew.Fl'.of KX G (Ew.fxl2 (Hx.te _) ?_ ?_ ?_ ?_) | refine' Ew.na_mk ?_ | refine' Ew.kt_mk KX G ?_ ?_ ?_ | refine' Ew.Fd.of KX G (Ew.fx0 (Hx.te _) ?_ ?_ ?_ ?_) | skip)
   all_goals ((try dsimp only);first | k_is | k_exc | skip)
   all_goals first | decide | kernel_rfl
  obtain ⟨c,⟨T⟩⟩:=T
  have e0:=hmg.symm.trans T.law.mgx
  have e1:fa=T.law.f:=by cases e0;rfl
  rw [e1]
  exact ⟨T.law.fd,T.law.bl,fun base kb nb=>(Pg.ok_law T).imp (Ew.spLaw_imp (Pg.law_true c  _))⟩
 case S=>exact fun K H a ns hl hO hS=>⟨a,ns,rfl,hl,hS,fun _ _=>rfl⟩
 case C=>exact fun H s e s' h=>h
