import PyProof.Rows.All
import Wide.All
import OpenK.AllK
import Wide.FinOn
import Lean
import PyProof.EqAt
import PyProof.EqKinds
import PyProof.TupleCall
import PySem.Challenge.RW_earworks_k01_whole_ears
set_option Elab.async false
set_option linter.all false
set_option maxRecDepth 100000
open PySem.W (instObj methodObj Frag lookIn InstAt plainGet hasDictIn findIn handedIn plainGet_of isFn plainOver takerIn makesIn typeIn emptyDict keepIn methodCall_KW specialIn takesIn mroIn kitOne kia_one kitx_list kitx_dict callWith_K cellsFrom_some fnOf codeIn OpenLaw WalkO subIn clsIn nsIn mg_of kIn_of mg_none_of)
open PyProof.Rows (callWith_type1 slot_tuple_getitem envOfC IntsAre step_dedup firstMet boot_set sorted_ints sortedAll boot_list boot_range boot_int boot_bool boot_tuple boot_all seqObj kind_sorted boot_sorted boot_min boot_max boot_any)
open PySem.F (plainAttrs_list plain_set_new slot_set_iter)
def ub:=@PySem.wpAny_bind
def uc:=@PySem.wpAny_pure
def ud:=@Option.bind_some
def uf:=@List.mem_cons_of_mem
def ug:=@List.getElem?_cons_succ
def uj:=@List.getElem?_cons_zero
def uk:=@List.length_map
def um:=@Bool.and_eq_true
noncomputable section
section
namespace L2
open PySem PySem.Spec PyProof.Rows
abbrev Key:=Sum Int Str
noncomputable def keyIs:Key->Value->Bool
 | .inl k,v=>Value.isInt k v
 | .inr x,v=>Value.isStrOf x v
noncomputable def keyH (w:World):Key->Int
 | .inl k=>hashInt k
 | .inr x=>hashStr w x
theorem bR:∀ {k:Key} {v:Value},keyIs k v=true->(∃ i t,k=Sum.inl i/\v=Value.int i t)\/(∃ x t,k=Sum.inr x/\v=Value.str x t)
 | .inl i,v,h=>by
  obtain ⟨t,e⟩:=Value.isInt_shape (k:=i) (v:=v) h;exact .inl ⟨i,t,rfl,e⟩
 | .inr x,v,h=>by
  obtain ⟨t,e⟩:=Value.isStrOf_shape (x:=x) (v:=v) h;exact .inr ⟨x,t,rfl,e⟩
theorem key_ll (a b:Int):decide ((Sum.inl a:Key)=Sum.inl b)=(a==b):=by
 by_cases e:a=b
 ·subst e;simp
 ·have h:¬(Sum.inl a:Key)=Sum.inl b:=fun q=>e (Sum.inl.inj q);rw [decide_eq_false h];exact (beq_eq_false_iff_ne.mpr e).symm
theorem key_rr (a b:Str):decide ((Sum.inr a:Key)=Sum.inr b)=decide (a=b):=by
 by_cases e:a=b
 ·subst e;simp
 ·have h:¬(Sum.inr a:Key)=Sum.inr b:=fun q=>e (Sum.inr.inj q);rw [decide_eq_false h,decide_eq_false e]
theorem key_lr (a:Int) (b:Str):decide ((Sum.inl a:Key)=Sum.inr b)=false:=decide_eq_false (fun q=>nomatch q)
theorem key_rl (a:Str) (b:Int):decide ((Sum.inr a:Key)=Sum.inl b)=false:=decide_eq_false (fun q=>nomatch q)
noncomputable def mixKind (prog:Program) (w:World):PySem.KeyKind prog w Key where
 is:=keyIs
 hash:=keyH w
 inj:=fun v a b ha hb=>by
  rcases bR ha with ⟨i,t,rfl,rfl⟩ | ⟨x,t,rfl,rfl⟩
  ·rcases bR hb with ⟨j,u,rfl,e⟩ | ⟨y,u,rfl,e⟩
   ·injection e with e1 _;rw [e1]
   ·exact nomatch e
  ·rcases bR hb with ⟨j,u,rfl,e⟩ | ⟨y,u,rfl,e⟩
   ·exact nomatch e
   ·injection e with e1 _;rw [e1]
 byValue:=fun k v h=>by
  rcases bR h with ⟨i,t,rfl,rfl⟩ | ⟨x,t,rfl,rfl⟩ <;> rfl
 pyHash:=fun hv h=>by
  rcases bR hv with ⟨i,t,rfl,rfl⟩ | ⟨x,t,rfl,rfl⟩
  ·exact wpAny_pyHash_int h
  ·exact wpAny_pyHash_str h
 eqBool:=fun hu hv h=>by
  rcases bR hu with ⟨i,t,rfl,rfl⟩ | ⟨x,t,rfl,rfl⟩
  ·rcases bR hv with ⟨j,u,rfl,rfl⟩ | ⟨y,u,rfl,rfl⟩
   ·rw [key_ll] at h;exact wpAny_eqBool_int h
   ·rw [key_lr] at h;exact SeqAt.EqAt.int_str i t y u _ _ _ _ h
  ·rcases bR hv with ⟨j,u,rfl,rfl⟩ | ⟨y,u,rfl,rfl⟩
   ·rw [key_rl] at h;exact SeqAt.EqAt.str_int x t j u _ _ _ _ h
   ·rw [key_rr] at h;exact wpAny_eqBool_str h
 «strs»:=fun k x t v h=>by
  rcases bR h with ⟨i,u,rfl,e⟩ | ⟨y,u,rfl,e⟩
  ·exact nomatch e
  ·injection e with e1 _;subst e1;cases v <;> rfl
inductive V where
 | non | bl (b:Bool) | int (i:Int) | str (x:Str) | byt (b:Array UInt8) | flt (b:UInt64) | ref (a:Addr) | ty (n:String)
 deriving DecidableEq
noncomputable def RelV:V->Value->Prop
 | .non,u=>u=Value.none
 | .bl b,u=>u=Value.bool b
 | .int i,u=>∃ t,u=Value.int i t
 | .str x,u=>∃ t,u=Value.str x t
 | .byt b,u=>∃ t,u=Value.bytes b t
 | .flt b,u=>∃ t,u=Value.float b t
 | .ref a,u=>u=Value.ref a
 | .ty n,u=>u=Value.type n
abbrev aQ:List V->List Value->Prop:=Paired RelV
theorem aQ.length {xs:List V} {us:List Value} (r:aQ xs us):xs.length=us.length:=Paired.length r
theorem aQ.get:∀ {xs:List V} {us:List Value} {i:Nat} {x:V},aQ xs us->xs[i]?=some x->∃ u,us[i]?=some u/\RelV x u
 | _,_,_,_,.nil,e=>by simp at e
 | _,_,0,_,.cons r _,e=>by simp at e;subst e;exact ⟨_,rfl,r⟩
 | _,_,i+1,x,.cons _ t,e=>by
  obtain ⟨u,h1,h2⟩:=aQ.get (i:=i) (x:=x) t (by simpa using e);exact ⟨u,by simpa using h1,h2⟩
theorem aQ.append:∀ {xs ys:List V} {us ws:List Value},aQ xs us->aQ ys ws->aQ (xs++ys) (us++ws)
 | _,_,_,_,.nil,s=>s
 | _,_,_,_,.cons r t,s=>.cons r (aQ.append t s)
theorem aQ.take:∀ {xs:List V} {us:List Value} (n:Nat),aQ xs us->aQ (xs.take n) (us.take n)
 | _,_,0,_=>.nil
 | _,_,_+1,.nil=>.nil
 | _,_,n+1,.cons r t=>.cons r (aQ.take n t)
theorem aQ.drop:∀ {xs:List V} {us:List Value} (n:Nat),aQ xs us->aQ (xs.drop n) (us.drop n)
 | _,_,0,r=>r
 | _,_,_+1,.nil=>.nil
 | _,_,n+1,.cons _ t=>aQ.drop n t
noncomputable def RelO:Option V->Option Value->Prop
 | some v,some u=>RelV v u
 | none,none=>True
 | _,_=>False
noncomputable def KV {κ:Type}:List (κ×V)->List (κ×Value)->Prop:=Paired fun (p:κ×V) (q:κ×Value)=>p.1=q.1/\RelV p.2 q.2
noncomputable def kV:Key->V
 | .inl i=>.int i
 | .inr x=>.str x
inductive HO where
 | lst (xs:List V)
 | tup (xs:List V)
 | dK (kvs:List (Key×V)) | dT (kvs:List (List Key×V))
 | set (S:Int->Bool) (n:Nat)
 | ins (C dx:Addr) (fs:List (Str×V))
 | own (x:Addr)
 | xd (fs:List (Str×V))
 | met (f x:Addr)
 | rng (lo hi:Int)
 | frz (o:Obj) (u:HO)
 | tbl (ps:Array Value)
 | ext (φ:Heap->Prop)
abbrev Hp:=Addr->Option HO
noncomputable def upd (H:Hp) (a:Addr) (o:HO):Hp:=fun b=>if b=a then some o else H b
theorem aB {H:Hp} {a:Addr} {o:HO}:upd H a o a=some o:=by unfold upd;rw [if_pos rfl]
theorem aD {H:Hp} {a b:Addr} {o:HO} (h:b≠a):upd H a o b=H b:=by unfold upd;rw [if_neg h]
theorem aK {H:Hp} {a b:Addr} {o:HO} (h:H a=some o) (h':H b=none):a≠b:=by
 intro e;subst e;rw [h] at h';cases h'
section
variable (P:Program) (w:World)
noncomputable def cN (H:Hp) (h:Heap) (a:Addr):HO->Prop
 | .lst xs=>xs.length<=sizeLine/\∃ (its:List Value) (n:Nat),aQ xs its/\h.get? a=some { cls:=.type "list",data:=.seq its.toArray n }
 | .tup xs=>xs.length<=sizeLine/\∃ its:List Value,aQ xs its/\IsTup h a its.toArray
 | .dK kvs=>kvs.length<=sizeLine/\(a==sysModules)=false/\∃ vs,KV kvs vs/\h.DictOf (mixKind P w) a vs
 | .dT kvs=>kvs.length<=sizeLine/\(a==sysModules)=false/\∃ xs:List (List Key×Addr×Value),
  Paired (fun (p:List Key×V) (q:List Key×Addr×Value)=>p.1=q.1/\H q.2.1=some (.tup (p.1.map kV))/\RelV p.2 q.2.2) kvs xs/\
  ∃ o es ep,h.get? a=some o/\o.ExactDict/\o.data=.dict es ep/\es.toList=xs.map (entryOfKey (tupleKind (mixKind P w)))/\(xs.map (·.1)).Nodup
 | .set S n=>h.SetOf (intKind P w) a S n
 | .ins C dx fs=>H dx=some (.own a)/\fs.length<=1000/\dx≠a/\h.get? a=some (instObj C dx)/\
  ∃ mA,h.Ns1 dx mA/\(∀ f,RelO (fs.lookup f) (mA f))/\PySem.Within mA (fs.map (·.1))
 | .own _=>∃ o,h.get? a=some o
 | .xd fs=>∃ mA,h.Ns1 a mA/\∀ f,RelO (fs.lookup f) (mA f)
 | .rng lo hi=>∃ t u v,h.get? a=some { cls:=.type "range",data:=.fields #[.int lo t,.int hi u,.int 1 v] }
 | .frz o u=>h.get? a=some o/\cN H h a u
 | .tbl ps=>h.get? a=some { cls:=.none,data:=.fields ps }
 | .met f x=>h.get? a=some (methodObj (.ref f) (.ref x))
 | .ext φ=>φ h/\(∃ o,h.get? a=some o)/\∀ h1 h2:Heap,φ h1->(∀ o,h1.get? a=some o->h2.get? a=some o)->φ h2
noncomputable def HOk (H:Hp) (h:Heap):Prop:=∀ a o,H a=some o->cN P w H h a o
end
section
variable {P:Program} {w:World} {H H':Hp} {h h':Heap} {a:Addr} {o:HO}
theorem cN.lt (x:cN P w H h a o):a<h.objs.size:=by
 cases o with
 | lst xs=>obtain ⟨_,_,_,_,e⟩:=x;exact Heap.lt_size e
 | tup xs=>obtain ⟨_,_,_,p⟩:=x;exact p.lt
 | dK kvs=>obtain ⟨_,_,_,_,o,_,_,e,_⟩:=x;exact Heap.lt_size e
 | dT kvs=>obtain ⟨_,_,_,_,o,_,_,e,_⟩:=x;exact Heap.lt_size e
 | set S n=>obtain ⟨o,_,_,_,e,_⟩:=x;exact Heap.lt_size e
 | ins C dx fs=>obtain ⟨_,_,_,e,_⟩:=x;exact Heap.lt_size e
 | own y=>obtain ⟨_,e⟩:=x;exact Heap.lt_size e
 | xd fs=>obtain ⟨_,⟨_,_,_,e,_⟩,_⟩:=x;exact Heap.lt_size e
 | rng lo hi=>obtain ⟨_,_,_,e⟩:=x;exact Heap.lt_size e
 | frz ob u=>obtain ⟨e,_⟩:=x;exact Heap.lt_size e
 | tbl ps=>exact Heap.lt_size (show h.get? a=some _ from x)
 | met f y=>exact Heap.lt_size (show h.get? a=some _ from x)
 | ext φ=>obtain ⟨_,⟨_,e⟩,_⟩:=x;exact Heap.lt_size e
theorem Paired.mapP {α β:Type} {F G:α->β->Prop}:∀ {l₁:List α} {l₂:List β},Paired F l₁ l₂->(∀ a b,F a b->G a b)->Paired G l₁ l₂
 | _,_,.nil,_=>.nil
 | _,_,.cons r t,f=>.cons (f _ _ r) (Paired.mapP t f)
theorem cN.stay (x:cN P w H h a o) (k:∀ b u,(b=a\/H b=some (.own a))->h.get? b=some u->h'.get? b=some u)
  (ho:∀ b,H b=some (.own a)->H' b=some (.own a)) (ht:∀ b xs,H b=some (.tup xs)->H' b=some (.tup xs)):cN P w H' h' a o:=by
 induction o with
 | lst xs=>obtain ⟨z,its,n,r,e⟩:=x;exact ⟨z,its,n,r,k _ _ (.inl rfl) e⟩
 | tup xs=>obtain ⟨z,its,r,ob,e,c⟩:=x;exact ⟨z,its,r,ob,k _ _ (.inl rfl) e,c⟩
 | dK kvs=>obtain ⟨z,y,vs,r,ob,es,ep,e,c⟩:=x;exact ⟨z,y,vs,r,ob,es,ep,k _ _ (.inl rfl) e,c⟩
 | dT kvs=>
  obtain ⟨z,y,xs,r,ob,es,ep,e,c⟩:=x;exact ⟨z,y,xs,Paired.mapP r fun p q z=>⟨z.1,ht _ _ z.2.1,z.2.2⟩,ob,es,ep,k _ _ (.inl rfl) e,c⟩
 | set S n=>obtain ⟨ob,es,ep,t,e,c⟩:=x;exact ⟨ob,es,ep,t,k _ _ (.inl rfl) e,c⟩
 | ins C dx fs=>
  obtain ⟨d,z,ne,e,mA,⟨od,es,ep,e2,c⟩,r⟩:=x;exact ⟨ho _ d,z,ne,k _ _ (.inl rfl) e,mA,⟨od,es,ep,k _ _ (.inr d) e2,c⟩,r⟩
 | own y=>obtain ⟨ob,e⟩:=x;exact ⟨ob,k _ _ (.inl rfl) e⟩
 | xd fs=>obtain ⟨mA,⟨od,es,ep,e,c⟩,r⟩:=x;exact ⟨mA,⟨od,es,ep,k _ _ (.inl rfl) e,c⟩,r⟩
 | rng lo hi=>obtain ⟨t,u,v,e⟩:=x;exact ⟨t,u,v,k _ _ (.inl rfl) e⟩
 | frz ob u ih=>obtain ⟨e,q⟩:=x;exact ⟨k _ _ (.inl rfl) e,ih q⟩
 | tbl ps=>
  have e:h.get? a=some { cls:=.none,data:=.fields ps }:=x;show h'.get? a=some { cls:=.none,data:=.fields ps };exact k a _ (.inl rfl) e
 | met f y=>
  have e:h.get? a=some (methodObj (.ref f) (.ref y)):=x;show h'.get? a=some (methodObj (.ref f) (.ref y));exact k a _ (.inl rfl) e
 | ext φ=>obtain ⟨p,⟨o,e⟩,st⟩:=x;exact ⟨st _ _ p fun o q=>k _ _ (.inl rfl) q,⟨o,k _ _ (.inl rfl) e⟩,st⟩
theorem HOk.lt (x:HOk P w H h) (e:H a=some o):a<h.objs.size:=(x a o e).lt
theorem HOk.fresh (x:HOk P w H h) (e:h.objs.size<=a):H a=none:=by
 cases q:H a with
 | none=>rfl
 | some u=>exact absurd (Nat.lt_of_lt_of_le (x.lt q) e) (Nat.lt_irrefl _)
theorem HOk.kept (x:HOk P w H h) (k:∀ b u,h.get? b=some u->h'.get? b=some u):HOk P w H h':=fun a o e=>
 (x a o e).stay (fun b u _ q=>k b u q) (fun _ q=>q) fun _ _ q=>q
theorem HOk.laid (x:HOk P w H h) (k:∀ b u,h.get? b=some u->h'.get? b=some u) (hp:h.objs.size<=a) (new:cN P w (upd H a o) h' a o):HOk P w (upd H a o) h':=fun b u e=>by
 have hn:=x.fresh hp;by_cases hb:b=a
 ·subst hb;rw [aB] at e;cases e;exact new
 ·rw [aD hb] at e;exact (x b u e).stay (fun c v _ q=>k c v q) (fun c q=>by rw [aD (aK q hn)];exact q) fun c xs q=>by rw [aD (aK q hn)];exact q
end
noncomputable def Rd (H:Hp) (a:Addr) (u:HO):Prop:=H a=some u\/∃ o,H a=some (.frz o u)
theorem Rd.ok {P:Program} {w:World} {H:Hp} {h:Heap} {a:Addr} {u:HO} (r:Rd H a u) (x:HOk P w H h):cN P w H h a u:=by
 rcases r with r | ⟨o,r⟩
 ·exact x a u r
 ·obtain ⟨_,q⟩:=x a _ r;exact q
noncomputable def Mut:Option HO->Prop
 | some (.lst _)=>True
 | some (.dK _)=>True
 | some (.dT _)=>True
 | some (.set _ _)=>True
 | some (.ins _ _ _)=>True
 | some (.ext _)=>True
 | _=>False
section
variable {P:Program} {w:World} {H:Hp} {h h':Heap} {x e:Addr} {o':HO}
theorem HOk.write (ok:HOk P w H h) (mu:Mut (H x)) (he:e=x\/H e=some (.own x)) (k:∀ b u,b≠e->h.get? b=some u->h'.get? b=some u) (heo:∃ u,h'.get? e=some u)
  (new:cN P w (upd H x o') h' x o'):HOk P w (upd H x o') h':=fun b u q=>by
 have nown:∀ c y,H c=some (.own y)->c≠x:=fun c y r z=>by subst z;rw [r] at mu;exact mu
 have ntup:∀ c xs,H c=some (.tup xs)->c≠x:=fun c xs r z=>by subst z;rw [r] at mu;exact mu
 by_cases hb:b=x
 ·subst hb;rw [aB] at q;cases q;exact new
 ·rw [aD hb] at q;by_cases hbe:b=e
  ·have q':H b=some (.own x):=by
    rcases he with z | z
    ·exact absurd (hbe.trans z) hb
    ·rw [hbe];exact z
   rw [q] at q';cases q';obtain ⟨v,hv⟩:=heo;exact ⟨v,by rw [hbe];exact hv⟩
  ·refine (ok b u q).stay (fun c v hc r=>k c v ?_ r) (fun c r=>by rw [aD (nown c b r)];exact r) fun c xs r=>by rw [aD (ntup c xs r)];exact r
   rcases hc with rfl | hc
   ·exact hbe
   ·rintro rfl;rcases he with z | z
    ·exact nown c b hc z
    ·rw [hc] at z;cases z;exact hb rfl
end
structure Un (fs ex:List Addr) (H H':Hp) (h h':Heap):Prop where
 keep:∀ b o,h.get? b=some o->H b=none->b∉fs->b∉ex->h'.get? b=some o
 slot:∀ b o,h.get? b=some o->H b=none->b∈fs->b∉ex->∃ sl,h'.get? b=some { o with slots:=sl }
 free:∀ b o,h.get? b=some o->H b=none->b∉ex->H' b=none
 there:∀ b o,h.get? b=some o->b∉ex->∃ o',h'.get? b=some o'
 tups:∀ b xs,H b=some (.tup xs)->H' b=some (.tup xs)
 frzs:∀ b o u,H b=some (.frz o u)->H' b=some (.frz o u)
 tbls:∀ b ps,H b=some (.tbl ps)->∃ more,H' b=some (.tbl (ps++more))
section
variable {fs fs' ex ex':List Addr} {H H1 H2:Hp} {h h1 h2 h':Heap} {a x e:Addr} {o:HO}
theorem Un.any (u:Un fs ex H H1 h h1) {b:Addr} {ob:Obj} (q:h.get? b=some ob) (n:H b=none) (hx:b∉ex):∃ sl,h1.get? b=some { ob with slots:=sl }:=by
 by_cases hb:b∈fs
 ·exact u.slot b ob q n hb hx
 ·exact ⟨ob.slots,u.keep b ob q n hb hx⟩
theorem Un.kept (k:∀ b u,h.get? b=some u->h'.get? b=some u):Un fs ex H H h h':=
 ⟨fun b ob q _ _ _=>k b ob q,fun b ob q _ _ _=>⟨ob.slots,k b ob q⟩,fun _ _ _ n _=>n,fun b ob q _=>⟨ob,k b ob q⟩,fun _ _ q=>q,fun _ _ _ q=>q,fun _ ps q=>⟨#[],by rw [q];simp⟩⟩
theorem Un.refl:Un fs ex H H h h:=Un.kept fun _ _ q=>q
theorem Un.laid (k:∀ b u,h.get? b=some u->h'.get? b=some u) (hp:h.objs.size<=a) (hn:H a=none):Un fs ex H (upd H a o) h h' where
 keep:=fun b u q _ _ _=>k b u q
 slot:=fun b u q _ _ _=>⟨u.slots,k b u q⟩
 free:=fun b u q n _=>by rw [aD (Nat.ne_of_lt (Nat.lt_of_lt_of_le (Heap.lt_size q) hp))];exact n
 there:=fun b u q _=>⟨u,k b u q⟩
 tups:=fun b xs q=>by rw [aD (aK q hn)];exact q
 frzs:=fun b u xs q=>by rw [aD (aK q hn)];exact q
 tbls:=fun b ps q=>⟨#[],by rw [aD (aK q hn),q];simp⟩
theorem Un.write (mu:Mut (H x)) (he:e=x\/H e=some (.own x)) (k:∀ b u,b≠e->h.get? b=some u->h'.get? b=some u) (heo:∃ u,h'.get? e=some u):Un fs ex H (upd H x o) h h':=by
 have hx:∀ b,H b=none->b≠x:=fun b n z=>by subst z;rw [n] at mu;exact mu
 have hb:∀ b,H b=none->b≠e:=fun b n z=>by
  subst z;rcases he with r | r
  ·exact hx b n r
  ·rw [n] at r;cases r
 have hm:∀ b u,H b=some u->¬Mut (some u)->b≠x:=fun b u q nm z=>by subst z;rw [q] at mu;exact nm mu
 refine ⟨fun b u q n _ _=>k b u (hb b n) q,fun b u q n _ _=>⟨u.slots,k b u (hb b n) q⟩,fun b u q n _=>by rw [aD (hx b n)];exact n,fun b u q _=>?_,
  fun b xs q=>by rw [aD (hm b _ q fun z=>z)];exact q,fun b u xs q=>by rw [aD (hm b _ q fun z=>z)];exact q,fun b ps q=>⟨#[],by rw [aD (hm b _ q fun z=>z),q];simp⟩⟩
 by_cases hbe:b=e
 ·subst hbe;exact heo
 ·exact ⟨u,k b u hbe q⟩
end
noncomputable def trk (h:Heap) (H:Hp):List Addr:=(List.range h.objs.size).filter fun a=>(H a).isSome
noncomputable def hidT (h:Heap) (H:Hp):Heap:=PySem.W.hideAll h (trk h H)
theorem hidT_size (h:Heap) (H:Hp):(hidT h H).objs.size=h.objs.size:=PySem.W.hideAll_size _ _
theorem hidT_get {h:Heap} {H:Hp} {b:Addr} {o:Obj} (e:h.get? b=some o) (n:H b=none):(hidT h H).get? b=some o:=
 PySem.W.hideAll_get _ e fun hm=>by
  have q:(H b).isSome=true:=(List.mem_filter.mp hm).2;rw [n] at q;simp at q
theorem of_hidT {h:Heap} {H:Hp} {b:Addr} {o:Obj} (e:(hidT h H).get? b=some o):h.get? b=some o/\H b=none:=by
 have e':h.get? b=some o:=PySem.W.of_hideAll (trk h H) e;refine ⟨e',?_⟩;cases q:H b with
 | none=>rfl
 | some x=>
  have hm:b∈trk h H:=List.mem_filter.mpr ⟨List.mem_range.mpr (Heap.lt_size e'),by simp [q]⟩;have z:(hidT h H).get? b=none:=PySem.W.hideAll_none (trk h H) hm;rw [z] at e;cases e
structure Mod (K:Frag) (mg:Str->Option Value) (base:Heap):Prop where
 kin:K.In base
 glob:base.Ns mainGlobals mg
 blt:∃ mb,base.Ns builtinsNs mb/\∀ x:Str,x≠"__name__"->mb x=bootBuiltins x
 nolimit:base.NoLimit
structure Cx where
 prog:Program
 w:World
 K:Frag
 mg:Str->Option Value
 base:Heap
 A:Around
 N:List Str
 s₀:Shared
 H₀:Hp
 env:Env
 outer:List Env
 stack:List Env
 ex:List Addr
 fn:Str->Bool
 calm:Bool
 pn:List (Addr×Obj)
 xe:Value->Shared->Prop
noncomputable def frs (l:List Env):List Addr:=l.filterMap (·.frame)
abbrev Cx.fs (X:Cx):List Addr:=frs X.outer
noncomputable def Vis (sc:Scope) (x:Str):Prop:=sc.names.lookup x=some .local\/sc.names.lookup x=some .cell\/sc.names.lookup x=some .free
noncomputable def Loc (sc:Scope) (x:Str):Prop:=sc.names.lookup x=some .local\/sc.names.lookup x=some .cell
noncomputable def Look (env:Env) (h:Heap) (m:Str->Option Value) (x:Str) (u:Value):Prop:=
 (env.kindOf x=some .local/\m x=some u)\/((env.kindOf x=some .cell\/env.kindOf x=some .free)/\∃ c,env.cells.lookup x=some c/\h.IsCell c (some u))
structure Cx.Ok (X:Cx):Prop where
 mod:Mod X.K X.mg X.base
 kind:X.env.scope.kind=.function
 glob:X.env.globals=mainGlobals
 blt:X.env.builtins=builtinsNs
 above:X.s₀.heap.objs.size<=X.env.locals
 inj:∀ x y c,X.env.cells.lookup x=some c->X.env.cells.lookup y=some c->x=y
 has:∀ x,(X.env.kindOf x=some .cell\/X.env.kindOf x=some .free)->∃ c,X.env.cells.lookup x=some c
 cab:∀ x c,X.fn x=true->X.env.cells.lookup x=some c->X.s₀.heap.objs.size<=c
 hd:X.calm=true->X.A.handled=none
 frames:X.A.frames=some X.stack
 stk:X.stack=X.outer\/(X.stack=X.env::X.outer/\X.env.frame=some X.env.locals)
 exf:∀ b∈X.ex,b≠X.env.locals/\∀ x c,X.env.cells.lookup x=some c->c≠b
 bs:∀ b o,X.base.get? b=some o->X.s₀.heap.get? b=some o/\X.H₀ b=none
 bsz:X.base.objs.size<=X.s₀.heap.objs.size
 noex:∀ b o,X.base.get? b=some o->b∉X.ex
 exfs:∀ b∈X.ex,b∉X.fs
 funs:X.s₀.heap.FunFrames X.base X.outer
 frf:∀ b∈X.fs,X.H₀ b=none
structure Inv (X:Cx) (pins:List (Addr×Obj)) (σ:List (Option V)) (H:Hp) (s:Shared):Prop where
 ok:X.Ok
 os:s.os=X.s₀.os
 bare:AllBare s.gens
 base:Un X.fs X.ex X.H₀ H X.s₀.heap s.heap
 loc:∃ m,s.heap.Ns X.env.locals m/\∀ (i:Nat) (x:Str) (v:V),X.N[i]?=some x->σ[i]?=some (some v)->Vis X.env.scope x->∃ u,RelV v u/\Look X.env s.heap m x u
 cell:∀ x c,X.env.cells.lookup x=some c->∃ v,s.heap.IsCell c v
 free:H X.env.locals=none
 freeC:∀ x c,X.env.cells.lookup x=some c->H c=none
 pin:∀ p∈X.pn++pins,s.heap.get? p.1=some p.2/\H p.1=none/\p.1≠X.env.locals/\p.1∉X.fs/\∀ v,p.2.data≠.cell v
 hok:HOk X.prog X.w H s.heap
 len:σ.length=X.N.length
section
variable {X:Cx} {pins:List (Addr×Obj)} {σ:List (Option V)} {H H':Hp} {s:Shared} {h':Heap}
theorem Cx.Ok.nofr (ok:X.Ok) {b:Addr} {o:Obj} (e:X.base.get? b=some o):b∉X.fs:=fun hb=>by
 have:=(ok.funs.mem hb).1;rw [e] at this;cases this
theorem Inv.bs (I:Inv X pins σ H s):∀ b o,X.base.get? b=some o->s.heap.get? b=some o/\H b=none:=fun b o e=>
 ⟨I.base.keep b o (I.ok.bs b o e).1 (I.ok.bs b o e).2 (I.ok.nofr e) (I.ok.noex b o e),I.base.free b o (I.ok.bs b o e).1 (I.ok.bs b o e).2 (I.ok.noex b o e)⟩
theorem Inv.bk (I:Inv X pins σ H s):∀ b o,X.base.get? b=some o->s.heap.get? b=some o:=fun b o e=>(I.bs b o e).1
theorem Inv.mod (I:Inv X pins σ H s):Mod X.K X.mg X.base:=I.ok.mod
theorem Inv.kIn (I:Inv X pins σ H s):X.K.In s.heap:=I.ok.mod.kin.keeps I.bk
theorem Inv.lt (I:Inv X pins σ H s):X.env.locals<s.heap.objs.size:=let ⟨_,hn,_⟩:=I.loc;hn.lt
theorem Inv.sz (I:Inv X pins σ H s):X.s₀.heap.objs.size<=s.heap.objs.size:=Nat.le_trans I.ok.above (Nat.le_of_lt I.lt)
theorem Inv.nofs (I:Inv X pins σ H s) {a:Addr} (h:s.heap.objs.size<=a):a∉X.fs:=fun hb=>by
 obtain ⟨_,o,ho,_⟩:=I.ok.funs.mem hb;exact absurd (Nat.lt_of_lt_of_le (Heap.lt_size ho) (Nat.le_trans I.sz h)) (Nat.lt_irrefl _)
theorem Inv.cne (I:Inv X pins σ H s):∀ x c,X.env.cells.lookup x=some c->c≠X.env.locals:=fun x c e z=>by
 obtain ⟨v,o,ho,hd⟩:=I.cell x c e;obtain ⟨m,⟨o',es,ep,ho',hd',_⟩,_⟩:=I.loc;rw [z,ho'] at ho;cases ho;rw [hd'] at hd;cases hd
theorem Inv.funs (I:Inv X pins σ H s):s.heap.FunFrames X.base X.outer:=by
 have all:∀ (l:List Env),(∀ b∈frs l,b∈X.fs)->X.s₀.heap.FunFrames X.base l->s.heap.FunFrames X.base l:=by
  intro l
  induction l with
  | nil=>intro _ _;trivial
  | cons env r ih=>
   intro hs hl;obtain ⟨hk,⟨L,o,hf,hn,ho,hd⟩,hr⟩:=hl;have hL:L∈X.fs:=hs L (by unfold frs;rw [List.filterMap_cons,hf];exact List.mem_cons_self);obtain ⟨sl,e⟩:=I.base.slot L o ho (I.ok.frf L hL) hL fun z=>I.ok.exfs L z hL;exact ⟨hk,⟨L,_,hf,hn,e,hd⟩,ih (fun b hb=>hs b (by unfold frs;rw [List.filterMap_cons,hf];exact uf _ hb)) hr⟩
 exact all X.outer (fun _ hb=>hb) I.ok.funs
theorem Inv.stack (I:Inv X pins σ H s):s.heap.FunFrames X.base X.stack:=by
 rcases I.ok.stk with e | ⟨e,hf⟩
 ·rw [e];exact I.funs
 ·rw [e];obtain ⟨m,hn,_⟩:=I.loc;refine .cons (by rw [I.ok.kind];decide) hf hn ?_ I.funs;exact Heap.get?_none_of_le (Nat.le_trans I.ok.bsz I.ok.above)
theorem Inv.stkSub (I:Inv X pins σ H s):∀ b∈frs X.stack,b∈X.env.locals::X.fs:=fun b hb=>by
 rcases I.ok.stk with e | ⟨e,hf⟩
 ·rw [e] at hb;exact uf _ hb
 ·rw [e] at hb;unfold frs at hb;rw [List.filterMap_cons,hf] at hb;exact hb
theorem Inv.stkFree (I:Inv X pins σ H s):∀ b∈frs X.stack,H b=none:=fun b hb=>by
 rcases List.mem_cons.mp (I.stkSub b hb) with e | hb
 ·rw [e];exact I.free
 ·obtain ⟨_,o,ho,_⟩:=I.ok.funs.mem hb;exact I.base.free b o ho (I.ok.frf b hb) fun z=>I.ok.exfs b z hb
theorem Inv.step {g':Array GenState} {t':Nat} {d':Drawn} {ch:List Addr} (I:Inv X pins σ H s)
  (hch:∀ b∈ch,(b∈X.ex\/X.s₀.heap.objs.size<=b)/\b≠X.env.locals/\(∀ x c,X.env.cells.lookup x=some c->c≠b)/\∀ p∈X.pn++pins,p.1≠b)
  (keep:∀ b o,b≠X.env.locals->b∉X.fs->b∉ch->s.heap.get? b=some o->H b=none->h'.get? b=some o)
  (slot:∀ b o,b≠X.env.locals->b∈X.fs->b∉ch->s.heap.get? b=some o->H b=none->∃ sl,h'.get? b=some { o with slots:=sl }) (free:∀ b o,b∉ch->s.heap.get? b=some o->H b=none->H' b=none)
  (there:∀ b o,b∉ch->s.heap.get? b=some o->∃ o',h'.get? b=some o')
  (tups:∀ b xs,H b=some (.tup xs)->H' b=some (.tup xs)) (frzs:∀ b o u,H b=some (.frz o u)->H' b=some (.frz o u)) (tbls:∀ b ps,H b=some (.tbl ps)->∃ more,H' b=some (.tbl (ps++more)))
  (ns:∀ m,s.heap.Ns X.env.locals m->h'.Ns X.env.locals m) (hok:HOk X.prog X.w H' h') (hg:AllBare g') :
  Inv X pins σ H' { s with heap:=h',gens:=g',drawn:=d',toks:=t' }:=by
 have neL:∀ b o,X.s₀.heap.get? b=some o->b≠X.env.locals:=fun b o e=>Nat.ne_of_lt (Nat.lt_of_lt_of_le (Heap.lt_size e) I.ok.above);have neC:∀ b o,X.s₀.heap.get? b=some o->b∉X.ex->b∉ch:=fun b o e hx hb=>by
  rcases (hch b hb).1 with z | z
  ·exact hx z
  ·exact absurd (Nat.lt_of_lt_of_le (Heap.lt_size e) z) (Nat.lt_irrefl _)
 have cellK:∀ x c,X.env.cells.lookup x=some c->∀ v,s.heap.IsCell c v->h'.IsCell c v:=fun x c e v ⟨o,ho,hd⟩=>by
  have nch:c∉ch:=fun z=>(hch c z).2.2.1 x c e rfl;by_cases hc:c∈X.fs
  ·obtain ⟨sl,q⟩:=slot c o (I.cne x c e) hc nch ho (I.freeC x c e);exact ⟨_,q,hd⟩
  ·exact ⟨o,keep c o (I.cne x c e) hc nch ho (I.freeC x c e),hd⟩
 refine ⟨I.ok,I.os,hg,⟨fun b o e n hb hx=>?_,fun b o e n hb hx=>?_,fun b o e n hx=>?_,fun b o e hx=>?_,fun b xs e=>tups b xs (I.base.tups b xs e),fun b o xs e=>frzs b o xs (I.base.frzs b o xs e),fun b ps e=>?_⟩,?_,fun x c e=>?_,?_,fun x c e=>?_,fun p hp=>?_,hok,I.len⟩
 ·exact keep b o (neL b o e) hb (neC b o e hx) (I.base.keep b o e n hb hx) (I.base.free b o e n hx)
 ·obtain ⟨sl,e1⟩:=I.base.slot b o e n hb hx;obtain ⟨sl',e2⟩:=slot b _ (neL b o e) hb (neC b o e hx) e1 (I.base.free b o e n hx);exact ⟨sl',e2⟩
 ·obtain ⟨o',e1⟩:=I.base.there b o e hx;exact free b o' (neC b o e hx) e1 (I.base.free b o e n hx)
 ·obtain ⟨o',e1⟩:=I.base.there b o e hx;exact there b o' (neC b o e hx) e1
 ·obtain ⟨m1,e1⟩:=I.base.tbls b ps e;obtain ⟨m2,e2⟩:=tbls b _ e1;exact ⟨m1++m2,by rw [e2,Array.append_assoc]⟩
 ·obtain ⟨m,hn,hl⟩:=I.loc;refine ⟨m,ns m hn,fun i x v e1 e2 e3=>?_⟩;obtain ⟨u,r,l⟩:=hl i x v e1 e2 e3;refine ⟨u,r,?_⟩;rcases l with l | ⟨k,c,e,z⟩
  ·exact .inl l
  ·exact .inr ⟨k,c,e,cellK x c e _ z⟩
 ·obtain ⟨v,z⟩:=I.cell x c e;exact ⟨v,cellK x c e v z⟩
 ·obtain ⟨m,⟨o,_,_,ho,_⟩,_⟩:=I.loc;exact free _ o (fun z=>(hch _ z).2.1 rfl) ho I.free
 ·obtain ⟨v,o,ho,hd⟩:=I.cell x c e;exact free c o (fun z=>(hch c z).2.2.1 x c e rfl) ho (I.freeC x c e)
 ·obtain ⟨e,n,ne,nf,d⟩:=I.pin p hp;have nch:p.1∉ch:=fun z=>(hch p.1 z).2.2.2 p hp rfl;exact ⟨keep p.1 p.2 ne nf nch e n,free p.1 p.2 nch e n,ne,nf,d⟩
theorem Inv.un {t':Nat} (I:Inv X pins σ H s) (u:Un X.fs [] H H' s.heap h') (hok:HOk X.prog X.w H' h'):Inv X pins σ H' { s with heap:=h',toks:=t' }:=by
 obtain ⟨m,⟨o,es,ep,ho,r⟩,_⟩:=id I.loc;obtain ⟨sl,hL⟩:=u.any ho I.free (by simp);exact I.step (g':=s.gens) (d':=s.drawn) (ch:=[]) (fun _ z=>nomatch z) (fun b o _ hb _ e n=>u.keep b o e n hb (by simp)) (fun b o _ hb _ e n=>u.slot b o e n hb (by simp)) (fun b o _ e n=>u.free b o e n (by simp)) (fun b o _ e=>u.there b o e (by simp)) u.tups u.frzs u.tbls (fun m' hm=>by
  obtain ⟨o',es',ep',ho',r'⟩:=hm;rw [ho] at ho';cases ho';exact ⟨_,es',ep',hL,r'⟩) hok I.bare
theorem Inv.call {g':Array GenState} {t':Nat} {d':Drawn} {ch:List Addr} (I:Inv X pins σ H s) (u:Un (frs X.stack) ch H H' s.heap h') (hok:HOk X.prog X.w H' h') (hg:AllBare g')
  (hch:∀ b∈ch,(b∈X.ex\/X.s₀.heap.objs.size<=b)/\b≠X.env.locals/\(∀ x c,X.env.cells.lookup x=some c->c≠b)/\∀ p∈X.pn++pins,p.1≠b) :
  Inv X pins σ H' { s with heap:=h',gens:=g',drawn:=d',toks:=t' }:=by
 obtain ⟨m,⟨o,es,ep,ho,r⟩,_⟩:=id I.loc;obtain ⟨sl,hL⟩:=u.any ho I.free fun z=>(hch _ z).2.1 rfl;exact I.step (ch:=ch) hch (fun b o hL hb hc e n=>u.keep b o e n (fun z=>(List.mem_cons.mp (I.stkSub b z)).elim hL hb) hc) (fun b o _ _ hc e n=>u.any e n hc) (fun b o hc e n=>u.free b o e n hc) (fun b o hc e=>u.there b o e hc) u.tups u.frzs u.tbls (fun m' hm=>by
  obtain ⟨o',es',ep',ho',r'⟩:=hm;rw [ho] at ho';cases ho';exact ⟨_,es',ep',hL,r'⟩) hok hg
theorem Inv.turned {t':Nat} {it:Addr} (I:Inv X pins σ H s) (k:∀ b o,b≠it->s.heap.get? b=some o->h'.get? b=some o) (hn:H it=none) (hL:it≠X.env.locals)
  (h1:it∈X.ex\/X.s₀.heap.objs.size<=it) (h2:∀ x c,X.env.cells.lookup x=some c->c≠it) (h3:∀ p∈X.pn++pins,p.1≠it):Inv X pins σ H { s with heap:=h',toks:=t' }:=by
 have nit:∀ b u,H b=some u->b≠it:=fun b u e z=>by rw [z,hn] at e;cases e
 refine I.step (g':=s.gens) (d':=s.drawn) (ch:=[it]) (fun b hb=>?_) (fun b o _ _ hc e _=>k b o (fun z=>hc (by simp [z])) e) (fun b o _ _ hc e _=>⟨o.slots,k b o (fun z=>hc (by simp [z])) e⟩) (fun _ _ _ _ n=>n)
  (fun b o hc e=>⟨o,k b o (fun z=>hc (by simp [z])) e⟩) (fun _ _ e=>e) (fun _ _ _ e=>e) (fun b ps e=>⟨#[],by rw [e];simp⟩) (fun m hm=>?_) (fun b u e=>?_) I.bare
 ·have e:b=it:=by simpa using hb
  subst e;exact ⟨h1,hL,h2,h3⟩
 ·obtain ⟨o,es,ep,ho,r⟩:=hm;exact ⟨o,es,ep,k _ o (Ne.symm hL) ho,r⟩
 ·refine (I.hok b u e).stay (fun c v hc q=>k c v ?_ q) (fun _ q=>q) fun _ _ q=>q;rcases hc with z | z
  ·rw [z];exact nit b u e
  ·exact nit c _ z
theorem Inv.tok (I:Inv X pins σ H s) (t:Nat):Inv X pins σ H { s with toks:=t }:=I.un (h':=s.heap) (t':=t) Un.refl I.hok
theorem Inv.kept {t':Nat} (I:Inv X pins σ H s) (k:∀ b u,s.heap.get? b=some u->h'.get? b=some u):Inv X pins σ H { s with heap:=h',toks:=t' }:=I.un (Un.kept k) (I.hok.kept k)
theorem Inv.laid {a:Addr} {o:HO} {t':Nat} (I:Inv X pins σ H s) (k:∀ b u,s.heap.get? b=some u->h'.get? b=some u) (hp:s.heap.objs.size<=a) (new:cN X.prog X.w (upd H a o) h' a o) :
 Inv X pins σ (upd H a o) { s with heap:=h',toks:=t' }:=I.un (Un.laid k hp (I.hok.fresh hp)) (I.hok.laid k hp new)
theorem Inv.write {x e:Addr} {o:HO} {t':Nat} (I:Inv X pins σ H s) (mu:Mut (H x)) (he:e=x\/H e=some (.own x)) (k:∀ b u,b≠e->s.heap.get? b=some u->h'.get? b=some u) (heo:∃ u,h'.get? e=some u)
 (new:cN X.prog X.w (upd H x o) h' x o):Inv X pins σ (upd H x o) { s with heap:=h',toks:=t' }:=I.un (Un.write mu he k heo) (I.hok.write mu he k heo new)
theorem Inv.pins_of {pins':List (Addr×Obj)} (I:Inv X pins σ H s) (h:∀ p∈pins',s.heap.get? p.1=some p.2/\H p.1=none/\p.1≠X.env.locals/\p.1∉X.fs/\∀ v,p.2.data≠.cell v):Inv X pins' σ H s:=
 ⟨I.ok,I.os,I.bare,I.base,I.loc,I.cell,I.free,I.freeC,fun p hp=>(List.mem_append.mp hp).elim (fun z=>I.pin p (List.mem_append_left _ z)) (h p),I.hok,I.len⟩
theorem p7 {N:List Str} (hN:N.Nodup) {i j:Nat} {x:Str} (a:N[i]?=some x) (b:N[j]?=some x):i=j:=by
 obtain ⟨h1,e1⟩:=List.getElem?_eq_some_iff.mp a;obtain ⟨h2,e2⟩:=List.getElem?_eq_some_iff.mp b;exact (List.getElem_inj hN).mp (e1.trans e2.symm)
theorem nS {M:Model} {A:Around} {E:Value->Shared->Prop} {i:Nat} {x:Str} {v:V} {u:Value} {Q:Unit->Shared->Prop} (I:Inv X pins σ H s) (hN:X.N.Nodup) (hi:X.N[i]?=some x) (hx:Loc X.env.scope x) (r:RelV v u)
  (h:∀ s',Inv X pins (σ.set i (some v)) H s'->(∃ a,Heap.SameBut a s.heap s'.heap/\(a=X.env.locals\/X.env.cells.lookup x=some a))->Q () s') (hf:X.fn x=true\/X.env.scope.names.lookup x=some .local:=by first | exact .inl rfl | exact .inr rfl | assumption):wpAny M A (storeName X.env x u) Q E s:=by
 obtain ⟨m,hn,hl⟩:=id I.loc;have hcls:(X.env.scope.kind==.class||(X.env.scope.kind==.module&&X.env.locals != X.env.globals))=false:=by rw [I.ok.kind];rfl
 have hiσ:i<σ.length:=by rw [I.len];exact (List.getElem?_eq_some_iff.mp hi).1
 have cne:=I.cne;have tracked:∀ {a:Addr} {h':Heap},(∃ o,s.heap.get? a=some o/\H a=none)->Heap.SameBut a s.heap h'->HOk X.prog X.w H h':=fun {a h'} ha hs b ob e=>by
  obtain ⟨_,_,hfree⟩:=ha;refine (I.hok b ob e).stay (fun c w' hc q=>(hs.2 c ?_).trans q) (fun _ q=>q) fun _ _ q=>q;rintro rfl;rcases hc with rfl | hc
  ·rw [hfree] at e;cases e
  ·rw [hfree] at hc;cases hc
 rcases hx with hk | hk
 ·refine wpAny_storeName_local hk hn (fun h' hn' hs=>?_) hcls;obtain ⟨oL,_,_,hoL,_⟩:=id hn;refine h _ ⟨I.ok,I.os,I.bare,⟨fun b o e n hb hx=>?_,fun b o e n hb hx=>?_,I.base.free,fun b o e hx=>?_,I.base.tups,I.base.frzs,I.base.tbls⟩,⟨_,hn',fun j y v' e1 e2 e3=>?_⟩,fun y c e=>?_,I.free,I.freeC,fun p hp=>?_,tracked ⟨oL,hoL,I.free⟩ hs,by simpa using I.len⟩ ⟨_,hs,.inl rfl⟩
  ·exact (hs.2 b (Nat.ne_of_lt (Nat.lt_of_lt_of_le (Heap.lt_size e) I.ok.above))).trans (I.base.keep b o e n hb hx)
  ·obtain ⟨sl,e1⟩:=I.base.slot b o e n hb hx;exact ⟨sl,(hs.2 b (Nat.ne_of_lt (Nat.lt_of_lt_of_le (Heap.lt_size e) I.ok.above))).trans e1⟩
  ·obtain ⟨o',e1⟩:=I.base.there b o e hx;exact ⟨o',(hs.2 b (Nat.ne_of_lt (Nat.lt_of_lt_of_le (Heap.lt_size e) I.ok.above))).trans e1⟩
  ·by_cases hj:j=i
   ·subst hj;rw [hi] at e1;cases e1;rw [List.getElem?_set_self hiσ] at e2;cases e2;exact ⟨u,r,.inl ⟨hk,by simp⟩⟩
   ·rw [List.getElem?_set_ne (Ne.symm hj)] at e2;obtain ⟨u',r',q⟩:=hl j y v' e1 e2 e3;refine ⟨u',r',?_⟩;rcases q with ⟨k,e⟩ | ⟨k,c,e,z⟩
    ·refine .inl ⟨k,?_⟩;have:y≠x:=fun e=>hj (p7 hN e1 (e▸hi));simp [this,e]
    ·exact .inr ⟨k,c,e,z.sameBut hs (cne y c e)⟩
  ·obtain ⟨w',z⟩:=I.cell y c e;exact ⟨w',z.sameBut hs (cne y c e)⟩
  ·obtain ⟨e,n,ne,nf,d⟩:=I.pin p hp;exact ⟨(hs.2 p.1 ne).trans e,n,ne,nf,d⟩
 ·have hfn:X.fn x=true:=by
   rcases hf with z | z
   ·exact z
   ·rw [z] at hk;cases hk
  obtain ⟨c,hc⟩:=I.ok.has x (.inl hk);obtain ⟨w',z⟩:=I.cell x c hc;refine wpAny_storeName_cell I.ok.kind hk hc z (fun h' hc' hs=>?_);obtain ⟨oc,hoc,hocd⟩:=id z;refine h { s with heap:=h' } ⟨I.ok,I.os,I.bare,⟨fun b o e n hb hx=>?_,fun b o e n hb hx=>?_,I.base.free,fun b o e hx=>?_,I.base.tups,I.base.frzs,I.base.tbls⟩,⟨m,hn.sameBut hs (Ne.symm (cne x c hc)),fun j y v' e1 e2 e3=>?_⟩,fun y c' e=>?_,I.free,I.freeC,fun p hp=>?_,tracked ⟨oc,hoc,I.freeC x c hc⟩ hs,by simpa using I.len⟩ ⟨c,hs,.inr hc⟩
  ·exact (hs.2 b (Nat.ne_of_lt (Nat.lt_of_lt_of_le (Heap.lt_size e) (I.ok.cab x c hfn hc)))).trans (I.base.keep b o e n hb hx)
  ·obtain ⟨sl,e1⟩:=I.base.slot b o e n hb hx;exact ⟨sl,(hs.2 b (Nat.ne_of_lt (Nat.lt_of_lt_of_le (Heap.lt_size e) (I.ok.cab x c hfn hc)))).trans e1⟩
  ·obtain ⟨o',e1⟩:=I.base.there b o e hx;exact ⟨o',(hs.2 b (Nat.ne_of_lt (Nat.lt_of_lt_of_le (Heap.lt_size e) (I.ok.cab x c hfn hc)))).trans e1⟩
  ·by_cases hj:j=i
   ·subst hj;rw [hi] at e1;cases e1;rw [List.getElem?_set_self hiσ] at e2;cases e2;exact ⟨u,r,.inr ⟨.inl hk,c,hc,hc'⟩⟩
   ·rw [List.getElem?_set_ne (Ne.symm hj)] at e2;obtain ⟨u',r',q⟩:=hl j y v' e1 e2 e3;refine ⟨u',r',?_⟩;rcases q with q | ⟨k,c',e,z'⟩
    ·exact .inl q
    ·refine .inr ⟨k,c',e,z'.sameBut hs ?_⟩;rintro rfl;exact hj (p7 hN e1 (I.ok.inj _ _ _ e hc▸hi))
  ·by_cases hcc:c'=c
   ·subst hcc;exact ⟨_,hc'⟩
   ·obtain ⟨w2,z2⟩:=I.cell y c' e;exact ⟨w2,z2.sameBut hs hcc⟩
  ·obtain ⟨e,n,ne,nf,d⟩:=I.pin p hp;refine ⟨(hs.2 p.1 ?_).trans e,n,ne,nf,d⟩;intro q;rw [q,hoc] at e;have q':oc=p.2:=Option.some.inj e;exact d w' (by rw [<-q'];exact hocd)
theorem gZ {M:Model} {A:Around} {E:Value->Shared->Prop} {i:Nat} {x:Str} {v:V} {u:Value} {Q:Unit->Shared->Prop} (I:Inv X pins σ H s) (hN:X.N.Nodup) (hi:X.N[i]?=some x) (hx:Loc X.env.scope x) (r:RelV v u)
  (h:∀ s',Inv X pins (σ.set i (some v)) H s'->Q () s') (hf:X.fn x=true\/X.env.scope.names.lookup x=some .local:=by first | exact .inl rfl | exact .inr rfl | assumption):wpAny M A (storeName X.env x u) Q E s:=
 nS I hN hi hx r (fun s' I' _=>h s' I') hf
theorem Inv.call' {s':Shared} {ch:List Addr} (I:Inv X pins σ H s) (ho:s'.os=s.os) (u:Un (frs X.stack) ch H H' s.heap s'.heap) (hok:HOk X.prog X.w H' s'.heap) (hg:AllBare s'.gens)
  (hch:∀ b∈ch,(b∈X.ex\/X.s₀.heap.objs.size<=b)/\b≠X.env.locals/\(∀ x c,X.env.cells.lookup x=some c->c≠b)/\∀ p∈X.pn++pins,p.1≠b):Inv X pins σ H' s':=by
 obtain ⟨h',g',d',t',o'⟩:=s';have e:o'=s.os:=ho;subst e;exact I.call (g':=g') (t':=t') (d':=d') u hok hg hch
end
abbrev XK:=Value->Option Addr->Hp->Prop
abbrev St:=List (Option V)
abbrev VK:=V->Hp->Prop
abbrev TE:=St->Hp->VK->Prop
abbrev TT:=St->Hp->(Bool->Hp->Prop)->Prop
abbrev TA:=St->Hp->(List V->Hp->Prop)->Prop
structure Ends where
 nx:St->Hp->Prop
 rt:VK
 bk:St->Hp->Prop:=fun _ _=>False
 ct:St->Hp->Prop:=fun _ _=>False
abbrev TS:=Ends->St->Hp->Prop
noncomputable def EP (X:Cx) (pins:List (Addr×Obj)) (σ:St) (Q:VK) (u:Value) (s':Shared):Prop:=∃ v H',Inv X pins σ H' s'/\RelV v u/\Q v H'
noncomputable def TP (X:Cx) (pins:List (Addr×Obj)) (σ:St) (Q:Bool->Hp->Prop) (b:Bool) (s':Shared):Prop:=∃ H',Inv X pins σ H' s'/\Q b H'
noncomputable def AP (X:Cx) (pins:List (Addr×Obj)) (σ:St) (Q:List V->Hp->Prop) (us:List Value) (s':Shared):Prop:=∃ vs H',Inv X pins σ H' s'/\aQ vs us/\Q vs H'
noncomputable def SP (X:Cx) (pins:List (Addr×Obj)) (D:Ends) (f:Flow) (s':Shared):Prop:=
 match f with
 | .next=>∃ σ' H',Inv X pins σ' H' s'/\D.nx σ' H'
 | .brk=>∃ σ' H',Inv X pins σ' H' s'/\D.bk σ' H'
 | .cont=>∃ σ' H',Inv X pins σ' H' s'/\D.ct σ' H'
 | .ret u=>∃ v σ' H',Inv X pins σ' H' s'/\RelV v u/\D.rt v H'
noncomputable def PE (X:Cx) (e:Expr) (t:TE):Prop:=
 ∀ (pins:List (Addr×Obj)) (s:Shared) (σ:St) (H:Hp) (Q:VK),Inv X pins σ H s->t σ H Q->wpAny (model X.prog X.w) X.A (eval e X.env) (EP X pins σ Q) X.xe s
noncomputable def PT (X:Cx) (e:Expr) (t:TT):Prop:=
 ∀ (pins:List (Addr×Obj)) (s:Shared) (σ:St) (H:Hp) (Q:Bool->Hp->Prop),Inv X pins σ H s->t σ H Q->wpAny (model X.prog X.w) X.A (isTrue e X.env (eval e X.env)) (TP X pins σ Q) X.xe s
noncomputable def PW (X:Cx) (e:Expr) (t:TT):Prop:=
 ∀ (whole:Sem Value) (pins:List (Addr×Obj)) (s:Shared) (σ:St) (H:Hp) (Q:Bool->Hp->Prop),Inv X pins σ H s->t σ H Q->wpAny (model X.prog X.w) X.A (isTrue e X.env whole) (TP X pins σ Q) X.xe s
theorem PW.pt {X:Cx} {e:Expr} {t:TT} (h:PW X e t):PT X e t:=h _
noncomputable def PA (X:Cx) (es:List Expr) (t:TA):Prop:=
 ∀ (pos:Pos) (pins:List (Addr×Obj)) (s:Shared) (σ:St) (H:Hp) (Q:List V->Hp->Prop),Inv X pins σ H s->t σ H Q->wpAny (model X.prog X.w) X.A (spliced (backTo pos (starEach es X.env))) (AP X pins σ Q) X.xe s
noncomputable def PS (X:Cx) (st:Stmt) (t:TS):Prop:=
 ∀ (pins:List (Addr×Obj)) (s:Shared) (σ:St) (H:Hp) (D:Ends),Inv X pins σ H s->t D σ H->wpAny (model X.prog X.w) X.A (exec st X.env) (SP X pins D) X.xe s
noncomputable def PSs (X:Cx) (st:List Stmt) (t:TS):Prop:=
 ∀ (pins:List (Addr×Obj)) (s:Shared) (σ:St) (H:Hp) (D:Ends),Inv X pins σ H s->t D σ H->wpAny (model X.prog X.w) X.A (execs st X.env) (SP X pins D) X.xe s
theorem thn {α:Type} {t:Sem α} {Q Q':α->Shared->Prop} {M:Model} {A:Around} {E:Value->Shared->Prop} {s:Shared} (h:wpAny M A t Q E s) (hQ:∀ a s,Q a s->Q' a s):wpAny M A t Q' E s:=wpAny_mono h hQ fun _ _ x=>x
section
variable {X:Cx}
theorem bin {a b:Expr} {ta tb:TE} (ha:PE X a ta) (hb:PE X b tb) {pins:List (Addr×Obj)} {s:Shared} {σ:St} {H:Hp} {R:V->V->Hp->Prop} (I:Inv X pins σ H s) (h:ta σ H fun x H1=>tb σ H1 fun y H2=>R x y H2)
  {α:Type} {Q:α->Shared->Prop} {f:Value->Value->Sem α}
  (hf:∀ v u s2 x y H2,Inv X pins σ H2 s2->RelV x v->RelV y u->R x y H2->wpAny (model X.prog X.w) X.A (f v u) Q X.xe s2) :
  wpAny (model X.prog X.w) X.A (eval a X.env) (fun v s₁=>wpAny (model X.prog X.w) X.A (eval b X.env) (fun u s₂=>wpAny (model X.prog X.w) X.A (f v u) Q X.xe s₂) X.xe s₁) X.xe s:=by
 refine thn (ha pins s σ H _ I h) fun v s1 ⟨x,H1,I1,r1,q1⟩=>?_;refine thn (hb pins s1 σ H1 _ I1 q1) fun u s2 ⟨y,H2,I2,r2,q2⟩=>?_;exact hf v u s2 x y H2 I2 r1 r2 q2
noncomputable def iY (i:Nat):TE:=fun σ H Q=>∃ v,σ[i]?=some (some v)/\Q v H
noncomputable def tC (v:V):TE:=fun _ H Q=>Q v H
theorem pe_var {i:Nat} {x:Str} {pos:Pos} (hN:X.N[i]?=some x) (hv:Vis X.env.scope x) (hd:(x==("__debug__" : Str))=false:=by decide) (hcd:(x==("__classdict__" : Str))=false:=by decide):PE X (.Name x pos) (iY i):=by
 intro pins s σ H Q I h;obtain ⟨v,e,h⟩:=h;obtain ⟨m,hn,hl⟩:=I.loc;obtain ⟨u,r,l⟩:=hl i x v hN e hv;have fin:EP X pins σ Q u s:=⟨v,H,I,r,h⟩;rcases l with ⟨hk,hm⟩ | ⟨hk,c,hc,hcell⟩
 ·exact wpAny_Name (wpAny_loadName_local I.ok.kind hk hn hm fin) hd
 ·rcases hk with hk | hk
  ·exact wpAny_Name (wpAny_loadName_cell I.ok.kind hk hc hcell fin) hd
  ·exact wpAny_Name (wpAny_loadName_free I.ok.kind hk hc hcell fin hcd) hd
theorem pe_int {i j pos}:PE X (.Constant (.int i) j pos) (tC (.int i)):=fun _ _ _ H _ I h=>wpAny_Constant_int ⟨.int i,H,I.tok _,⟨_,rfl⟩,h⟩
theorem pe_bl {b j pos}:PE X (.Constant (.bool b) j pos) (tC (.bl b)):=fun _ _ _ H _ I h=>Constant_bool ⟨.bl b,H,I,rfl,h⟩
theorem pe_non {j pos}:PE X (.Constant .none j pos) (tC .non):=fun _ _ _ H _ I h=>Constant_none ⟨.non,H,I,rfl,h⟩
noncomputable def Gl (X:Cx) (x:Str):Prop:=X.env.kindOf x=some .globalImplicit
theorem oM {E:Value->Shared->Prop} {pins:List (Addr×Obj)} {s:Shared} {σ:St} {H:Hp} {x:Str} {u:Value} {pos:Pos} {Q:Value->Shared->Prop} (I:Inv X pins σ H s) (hg:Gl X x) (hm:X.mg x=some u) (h:Q u s)
  (hd:(x==("__debug__" : Str))=false:=by decide):wpAny (model X.prog X.w) X.A (eval (.Name x pos) X.env) Q E s:=
 Calls.Name_function_global I.ok.kind hg (Calls.loadGlobal_global (by rw [I.ok.glob];exact I.mod.glob.keeps I.bk) hm h) hd
theorem lQ {E:Value->Shared->Prop} {pins:List (Addr×Obj)} {s:Shared} {σ:St} {H:Hp} {x:Str} {u:Value} {pos:Pos} {Q:Value->Shared->Prop} (I:Inv X pins σ H s) (hg:Gl X x) (hm:X.mg x=none) (hv:bootBuiltins x=some u) (h:Q u s)
  (hn:x≠"__name__":=by decide) (hd:(x==("__debug__" : Str))=false:=by decide):wpAny (model X.prog X.w) X.A (eval (.Name x pos) X.env) Q E s:=by
 obtain ⟨mb,h1,h2⟩:=I.mod.blt;exact Calls.Name_function_global I.ok.kind hg (Calls.loadGlobal_builtin (by rw [I.ok.glob];exact I.mod.glob.keeps I.bk) hm (by rw [I.ok.blt];exact h1.keeps I.bk) ((h2 x hn).trans hv) h) hd
theorem pe_glob {x:Str} {v:V} {u:Value} {pos:Pos} (hg:Gl X x) (hm:X.mg x=some u) (r:RelV v u) (hd:(x==("__debug__" : Str))=false:=by decide):PE X (.Name x pos) (tC v):=
 fun _ _ _ H _ I h=>oM I hg hm ⟨v,H,I,r,h⟩ hd
theorem lA {x:Str} {v:V} {u:Value} {pos:Pos} (hg:Gl X x) (hm:X.mg x=none) (hv:bootBuiltins x=some u) (r:RelV v u) (hn:x≠"__name__":=by decide) (hd:(x==("__debug__" : Str))=false:=by decide):PE X (.Name x pos) (tC v):=
 fun _ _ _ H _ I h=>lQ I hg hm hv ⟨v,H,I,r,h⟩ hn hd
variable {a b:Expr} {ta tb:TE} {pos:Pos}
noncomputable def PC (X:Cx) (op:CmpOp) (a b:Expr) (t:TE):Prop:=
 ∀ (pins:List (Addr×Obj)) (s:Shared) (σ:St) (H:Hp) (Q:VK),Inv X pins σ H s->t σ H Q->
  wpAny (model X.prog X.w) X.A (eval a X.env) (fun v s₁=>wpAny (model X.prog X.w) X.A (eval b X.env) (fun u s₂=>wpAny (model X.prog X.w) X.A (compareOp op v u) (EP X pins σ Q) X.xe s₂) X.xe s₁) X.xe s
noncomputable def tB (t:TE):TT:=fun σ H Q=>t σ H fun x H1=>∃ c,x=.bl c/\Q c H1
theorem pt_cmp {op:CmpOp} {t:TE} (h:PC X op a b t) (h1:behindInMarks op b=false:=by first | exact nobehind _ (by decide) (by decide) | rfl):PT X (.Compare a [op] [b] pos) (tB t):=by
 intro pins s σ H Q I hw;refine wpAny_isTrue_Compare1 (thn (h pins s σ H _ I hw) fun v s1 h1=>thn h1 fun u s2 h2=>thn h2 fun c s3 ⟨x,H1,I1,r1,q1⟩=>?_) h1;obtain ⟨d,rfl,q⟩:=q1;cases r1;exact wpAny_truthy_bool ⟨H1,I1,q⟩
theorem pt_val {e:Expr} {t:TE} (h:PE X e t) (he:∀ whole,isTrue e X.env whole=(do let v <-whole;standAt e.pos;holding [v] (truthy v)):=by intro _;rfl):PT X e (tB t):=by
 intro pins s σ H Q I hw;refine isTrue_plain (thn (h pins s σ H _ I hw) fun v s1 ⟨x,H1,I1,r1,q1⟩=>?_) (he _);obtain ⟨d,rfl,q⟩:=q1;cases r1;exact wpAny_truthy_bool ⟨H1,I1,q⟩
variable {tA tB':TT} {rest:List Expr}
noncomputable def tAnd (t u:TT):TT:=fun σ H Q=>t σ H fun c H1=>if c=true then u σ H1 Q else Q false H1
noncomputable def tOr (t u:TT):TT:=fun σ H Q=>t σ H fun c H1=>if c=true then Q true H1 else u σ H1 Q
noncomputable def tNot (t:TT):TT:=fun σ H Q=>t σ H fun c H1=>Q (!c) H1
theorem pw_and1 (ha:PT X a tA):PW X (.BoolOp .And [a] pos) tA:=by
 intro wh pins s σ H Q I h;refine isTrue_and (thn (ha pins s σ H Q I h) fun c s1 e=>?_);cases c with
 | true=>exact isTrue_and_nil e
 | false=>exact e
theorem pw_or1 (ha:PT X a tA):PW X (.BoolOp .Or [a] pos) tA:=by
 intro wh pins s σ H Q I h;refine isTrue_or (thn (ha pins s σ H Q I h) fun c s1 e=>?_);cases c with
 | false=>exact isTrue_or_nil e
 | true=>exact e
theorem pw_and (ha:PT X a tA) (hb:PW X (.BoolOp .And (b::rest) pos) tB'):PW X (.BoolOp .And (a::b::rest) pos) (tAnd tA tB'):=by
 intro wh pins s σ H Q I h;refine isTrue_and (thn (ha pins s σ H _ I h) fun c s1 ⟨H1,I1,q1⟩=>?_);cases c with
 | true=>exact hb wh pins s1 σ H1 Q I1 q1
 | false=>exact ⟨H1,I1,q1⟩
theorem pw_or (ha:PT X a tA) (hb:PW X (.BoolOp .Or (b::rest) pos) tB'):PW X (.BoolOp .Or (a::b::rest) pos) (tOr tA tB'):=by
 intro wh pins s σ H Q I h;refine isTrue_or (thn (ha pins s σ H _ I h) fun c s1 ⟨H1,I1,q1⟩=>?_);cases c with
 | true=>exact ⟨H1,I1,q1⟩
 | false=>exact hb wh pins s1 σ H1 Q I1 q1
theorem pt_not (ha:PT X a tA):PT X (.UnaryOp .Not a pos) (tNot tA):=by
 intro pins s σ H Q I h;exact isTrue_not (ha pins s σ H (fun c H1=>Q (!c) H1) I h)
noncomputable def tAndV (ta tb:TE):TE:=fun σ H Q=>ta σ H fun x H1=>∃ c,x=.bl c/\if c=true then tb σ H1 Q else Q (.bl false) H1
noncomputable def tNotV (ta:TE):TE:=fun σ H Q=>ta σ H fun x H1=>∃ c,x=.bl c/\Q (.bl (!c)) H1
theorem pe_one {op} {t:TE} (h:PE X a t):PE X (.BoolOp op [a] pos) t:=fun pins s σ H Q I hw=>BoolOp_one (h pins s σ H Q I hw)
theorem pe_and (ha:PE X a ta) (hb:PE X (.BoolOp .And (b::rest) pos) tb):PE X (.BoolOp .And (a::b::rest) pos) (tAndV ta tb):=by
 intro pins s σ H Q I h;refine BoolOp_and (thn (ha pins s σ H _ I h) fun v s1 ⟨x,H1,I1,r1,q1⟩=>?_);obtain ⟨c,rfl,q1⟩:=q1;cases r1;refine wpAny_truthy_bool ?_;cases c with
 | true=>exact hb pins s1 σ H1 Q I1 q1
 | false=>exact ⟨.bl false,H1,I1,rfl,q1⟩
theorem pe_not (ha:PE X a ta):PE X (.UnaryOp .Not a pos) (tNotV ta):=by
 intro pins s σ H Q I h;refine UnaryOp_ (thn (ha pins s σ H _ I h) fun v s1 ⟨x,H1,I1,r1,q1⟩=>?_);obtain ⟨c,rfl,q1⟩:=q1;cases r1;exact not_of (wpAny_truthy_bool ⟨.bl (!c),H1,I1,rfl,q1⟩)
noncomputable def tIf (t:TT) (ta tb:TE):TE:=fun σ H Q=>t σ H fun c H1=>if c=true then ta σ H1 Q else tb σ H1 Q
theorem lR {c:Expr} (hc:PT X c tA) (ha:PE X a ta) (hb:PE X b tb):PE X (.IfExp c a b pos) (tIf tA ta tb):=by
 intro pins s σ H Q I h;refine wpAny_IfExp (thn (hc pins s σ H _ I h) fun d s1 ⟨H1,I1,q1⟩=>?_);cases d with
 | true=>exact ha pins s1 σ H1 Q I1 q1
 | false=>exact hb pins s1 σ H1 Q I1 q1
end
noncomputable def SqL (K:Frag) (H:Hp) (a:Addr) (xs:List V):Prop:=
 Rd H a (.lst xs)\/
  ∃ (o:Obj) (its:Array Value) (n:Nat),K.lookup a=some o/\o.cls=.type "list"/\o.dict=none/\o.data=.seq its n/\its.size<=sizeLine/\aQ xs its.toList
noncomputable def SqT (K:Frag) (H:Hp) (a:Addr) (xs:List V):Prop:=
 Rd H a (.tup xs)\/
  ∃ (o:Obj) (its:Array Value) (n:Nat),K.lookup a=some o/\o.cls=.type "tuple"/\o.data=.seq its n/\its.size<=sizeLine/\aQ xs its.toList
noncomputable def absV:Value->Option V
 | .none=>some .non
 | .bool b=>some (.bl b)
 | .int i _=>some (.int i)
 | .str x _=>some (.str x)
 | .bytes b _=>some (.byt b)
 | .float b _=>some (.flt b)
 | .ref a=>some (.ref a)
 | .type n=>some (.ty n)
 | _=>none
theorem RelV.abs {x:V} {u:Value} (r:RelV x u):absV u=some x:=by
 cases x with
 | non=>cases r;rfl
 | bl _=>cases r;rfl
 | int _=>obtain ⟨t,rfl⟩:=r;rfl
 | str _=>obtain ⟨t,rfl⟩:=r;rfl
 | byt _=>obtain ⟨t,rfl⟩:=r;rfl
 | flt _=>obtain ⟨t,rfl⟩:=r;rfl
 | ref _=>cases r;rfl
 | ty _=>cases r;rfl
theorem RelV.inj {x y:V} {u:Value} (r:RelV x u) (q:RelV y u):x=y:=Option.some.inj (r.abs.symm.trans q.abs)
theorem aQ.inj:∀ {xs ys:List V} {us:List Value},aQ xs us->aQ ys us->xs=ys
 | _,_,_,.nil,.nil=>rfl
 | _,_,_,.cons r t,.cons r' t'=>by rw [r.inj r',aQ.inj t t']
section
variable {X:Cx} {pins:List (Addr×Obj)} {σ:St} {H:Hp} {s:Shared} {a:Addr} {xs ys:List V}
theorem SqL.of {K:Frag} (h:H a=some (.lst xs)):SqL K H a xs:=.inl (.inl h)
theorem SqT.of {K:Frag} (h:H a=some (.tup xs)):SqT K H a xs:=.inl (.inl h)
theorem Inv.list (I:Inv X pins σ H s) (h:SqL X.K H a xs):∃ its:List Value,aQ xs its/\PlainL s.heap a its.toArray/\xs.length<=sizeLine:=by
 rcases h with h | ⟨o,its,n,hk,hc,hd,hs,hz,r⟩
 ·obtain ⟨z,its,n,r,e⟩:=h.ok I.hok;exact ⟨its,r,⟨_,n,e,rfl,rfl,rfl⟩,z⟩
 ·refine ⟨its.toList,r,⟨o,n,I.kIn a o hk,hc,hd,by simpa using hs⟩,?_⟩;have e:=r.length;simp only [Array.length_toList] at e;omega
theorem Inv.tuple (I:Inv X pins σ H s) (h:SqT X.K H a xs):∃ its:List Value,aQ xs its/\IsTup s.heap a its.toArray/\xs.length<=sizeLine:=by
 rcases h with h | ⟨o,its,n,hk,hc,hs,hz,r⟩
 ·obtain ⟨z,its,r,p⟩:=h.ok I.hok;exact ⟨its,r,p,z⟩
 ·refine ⟨its.toList,r,⟨o,I.kIn a o hk,hc,n,by simpa using hs⟩,?_⟩;have e:=r.length;simp only [Array.length_toList] at e;omega
theorem Inv.list_inj (I:Inv X pins σ H s) (h:SqL X.K H a xs) (h':SqL X.K H a ys):xs=ys:=by
 obtain ⟨its,r,⟨o,n,e,_,_,d⟩,_⟩:=I.list h;obtain ⟨its',r',⟨o',n',e',_,_,d'⟩,_⟩:=I.list h';rw [e] at e';cases e';rw [d] at d';injection d' with d1 _;have:its=its':=by simpa using congrArg Array.toList d1
 subst this;exact r.inj r'
end
abbrev Cx.wish (X:Cx) (E:Value->Shared->Prop):Cx:={ X with xe:=E }
abbrev Cx.nox (X:Cx):Cx:=X.wish fun _ _=>False
theorem Cx.Ok.wish {X:Cx} (ok:X.Ok) (E:Value->Shared->Prop):(X.wish E).Ok:=
 ⟨ok.mod,ok.kind,ok.glob,ok.blt,ok.above,ok.inj,ok.has,ok.cab,ok.hd,ok.frames,ok.stk,ok.exf,ok.bs,ok.bsz,ok.noex,ok.exfs,ok.funs,ok.frf⟩
theorem Cx.Ok.unwish {X:Cx} {E:Value->Shared->Prop} (ok:(X.wish E).Ok):X.Ok:=
 ⟨ok.mod,ok.kind,ok.glob,ok.blt,ok.above,ok.inj,ok.has,ok.cab,ok.hd,ok.frames,ok.stk,ok.exf,ok.bs,ok.bsz,ok.noex,ok.exfs,ok.funs,ok.frf⟩
section
variable {X:Cx} {pins:List (Addr×Obj)} {σ:St} {H:Hp} {s:Shared} {E:Value->Shared->Prop}
theorem Inv.wish (I:Inv X pins σ H s) (E:Value->Shared->Prop):Inv (X.wish E) pins σ H s:=⟨I.ok.wish E,I.os,I.bare,I.base,I.loc,I.cell,I.free,I.freeC,I.pin,I.hok,I.len⟩
theorem Inv.unwish (I:Inv (X.wish E) pins σ H s):Inv X pins σ H s:=⟨I.ok.unwish,I.os,I.bare,I.base,I.loc,I.cell,I.free,I.freeC,I.pin,I.hok,I.len⟩
theorem SP.unwish {D:Ends} {f:Flow} {s':Shared} (h:SP (X.wish E) pins D f s'):SP X pins D f s':=by
 cases f with
 | next=>obtain ⟨σ',H',I,q⟩:=h;exact ⟨σ',H',I.unwish,q⟩
 | brk=>obtain ⟨σ',H',I,q⟩:=h;exact ⟨σ',H',I.unwish,q⟩
 | cont=>obtain ⟨σ',H',I,q⟩:=h;exact ⟨σ',H',I.unwish,q⟩
 | ret u=>obtain ⟨v,σ',H',I,r,q⟩:=h;exact ⟨v,σ',H',I.unwish,r,q⟩
theorem PSs.nox {st:List Stmt} {t:TS} (h:PSs X.nox st t):PSs X st t:=fun pins s σ H D I hw=>
 wpAny_mono (h pins s σ H D (I.wish _) hw) (fun _ _ q=>q.unwish) fun _ _ z=>False.elim z
end
section
variable {X:Cx} {st:Stmt} {rest:List Stmt} {t u:TS} {e:Expr} {te:TE} {pos:Pos}
noncomputable def tNext:TS:=fun D σ H=>D.nx σ H
noncomputable def tSeq (t u:TS):TS:=fun D σ H=>t { D with nx:=u D } σ H
theorem pss_nil:PSs X [] tNext:=fun _ _ σ H _ I h=>wpAny_execs_nil ⟨σ,H,I,h⟩
theorem pss_cons (h1:PS X st t) (h2:PSs X rest u):PSs X (st::rest) (tSeq t u):=by
 intro pins s σ H D I h;refine wpAny_execs_cons (thn (h1 pins s σ H { D with nx:=u D } I h) fun f s1 q=>?_);cases f with
 | next=>
  obtain ⟨σ',H',I',q⟩:=q;exact h2 pins s1 σ' H' D I' q
 | ret v=>exact q
 | brk=>exact q
 | cont=>exact q
theorem pss_one (h1:PS X st t):PSs X [st] t:=by
 intro pins s σ H D I h;refine wpAny_execs_cons (thn (h1 pins s σ H D I h) fun f s1 q=>?_);cases f with
 | next=>exact wpAny_execs_nil q
 | ret v=>exact q
 | brk=>exact q
 | cont=>exact q
theorem Inv.quiet {pins:List (Addr×Obj)} {σ:St} {H:Hp} {s:Shared} (I:Inv X pins σ H s):interactive X.env=false:=by simp [interactive,I.ok.kind]
noncomputable def tDrop (te:TE):TS:=fun D σ H=>te σ H fun _ H1=>D.nx σ H1
theorem iB (he:PE X e te) (hs:swapsWith e none pos.line X.env=pure false:=by rfl):PS X (.Expr e pos) (tDrop te):=by
 intro pins s σ H D I h;exact wpAny_Expr_any (thn (he pins s σ H _ I h) fun v s1 ⟨x,H1,I1,r1,q1⟩=>⟨σ,H1,I1,q1⟩) I.quiet hs
noncomputable def tRet (te:TE):TS:=fun D σ H=>te σ H D.rt
theorem oN (he:PE X e te):PS X (.Return (some e) pos) (tRet te):=by
 intro pins s σ H D I h;exact wpAny_Return_some (thn (he pins s σ H _ I h) fun v s1 ⟨x,H1,I1,r1,q1⟩=>⟨x,σ,H1,I1,r1,q1⟩)
noncomputable def tIfS (c:TT) (t u:TS):TS:=fun D σ H=>c σ H fun b H1=>if b=true then t D σ H1 else u D σ H1
theorem ps_if {c:Expr} {a b:List Stmt} {tc:TT} (hc:PT X c tc) (ha:PSs X a t) (hb:PSs X b u):PS X (.If c a b pos) (tIfS tc t u):=by
 intro pins s σ H D I h;refine wpAny_If (thn (hc pins s σ H _ I h) fun d s1 ⟨H1,I1,q1⟩=>?_);cases d with
 | true=>exact ha pins s1 σ H1 D I1 q1
 | false=>exact hb pins s1 σ H1 D I1 q1
end
abbrev TG:=V->St->Hp->(St->Hp->Prop)->Prop
abbrev TGs:=List V->St->Hp->(St->Hp->Prop)->Prop
noncomputable def PG (X:Cx) (target:Expr) (t:TG):Prop:=
 ∀ (pins:List (Addr×Obj)) (s:Shared) (σ:St) (H:Hp) (v:V) (u:Value) (Q:St->Hp->Prop),Inv X pins σ H s->RelV v u->t v σ H Q->
  wpAny (model X.prog X.w) X.A (assign target X.env u) (fun _ s'=>∃ σ' H',Inv X pins σ' H' s'/\Q σ' H') X.xe s
noncomputable def PGs (X:Cx) (ts:List Expr) (t:TGs):Prop:=
 ∀ (pins:List (Addr×Obj)) (s:Shared) (σ:St) (H:Hp) (vs:List V) (us:List Value) (Q:St->Hp->Prop),Inv X pins σ H s->aQ vs us->t vs σ H Q->
  wpAny (model X.prog X.w) X.A (assignInOrder ((assignEach ts X.env).map (·.2)) us) (fun _ s'=>∃ σ' H',Inv X pins σ' H' s'/\Q σ' H') X.xe s
abbrev TIp:=V->V->Hp->VK->Prop
noncomputable def PIp (X:Cx) (op:Operator) (t:TIp):Prop:=
 ∀ (pins:List (Addr×Obj)) (s:Shared) (σ:St) (H:Hp) (x y:V) (v u:Value) (Q:VK),Inv X pins σ H s->RelV x v->RelV y u->t x y H Q->
  wpAny (model X.prog X.w) X.A (inplaceOp op v u) (EP X pins σ Q) X.xe s
section
variable {X:Cx} {pos:Pos}
noncomputable def nT (i:Nat):TG:=fun v σ H Q=>Q (σ.set i (some v)) H
theorem pg_name {i:Nat} {x:Str} (hN:X.N.Nodup) (hi:X.N[i]?=some x) (hx:Loc X.env.scope x) (hf:X.fn x=true\/X.env.scope.names.lookup x=some .local:=by first | exact .inl rfl | exact .inr rfl | assumption):PG X (.Name x pos) (nT i):=by
 intro pins s σ H v u Q I r h;exact wpAny_assign_Name (gZ I hN hi hx r (fun s' I'=>⟨_,H,I',h⟩) hf)
noncomputable def gNil:TGs:=fun vs σ H Q=>vs=[]/\Q σ H
noncomputable def gCons (t:TG) (u:TGs):TGs:=fun vs σ H Q=>∃ v r,vs=v::r/\t v σ H fun σ' H'=>u r σ' H' Q
theorem pgs_nil:PGs X [] gNil:=by
 intro pins s σ H vs us Q I r h;obtain ⟨e,h⟩:=h;subst e;cases r;exact assignInOrder_nil ⟨σ,H,I,h⟩
theorem pgs_cons {e:Expr} {es:List Expr} {t:TG} {u:TGs} (h1:PG X e t) (h2:PGs X es u)
  (hs:(assignEach (e::es) X.env).map (·.2)=assign e X.env::(assignEach es X.env).map (·.2):=by rfl):PGs X (e::es) (gCons t u):=by
 intro pins s σ H vs us Q I r h;obtain ⟨v,vr,e1,h⟩:=h;subst e1;cases r with
 | cons r rr=>
  rw [hs];refine assignInOrder_cons (thn (h1 pins s σ H _ _ _ I r h) fun _ s1 ⟨σ1,H1,I1,q1⟩=>?_);exact h2 pins s1 σ1 H1 _ _ Q I1 rr q1
noncomputable def gTup (K:Frag) (n:Nat) (t:TGs):TG:=fun v σ H Q=>∃ a xs,v=.ref a/\SqT K H a xs/\xs.length=n/\t xs σ H Q
theorem pg_tup {es:List Expr} {k:Nat} {t:TGs} {n:Nat} (hc:X.calm=true) (h:PGs X es t)
  (hn:(assignEach es X.env).length=n:=by rfl) (hst:(assignEach es X.env).findIdx? (·.1)=none:=by rfl):PG X (.Tuple es k pos) (gTup X.K n t):=by
 intro pins s σ H v u Q I r hw;obtain ⟨a,xs,e1,hq,hl,hw⟩:=hw;subst e1;cases r;obtain ⟨its,rv,ht,hz⟩:=I.tuple hq;refine assign_Tuple_tuple (I.ok.hd hc) ht (by simp [hn,<-hl,rv.length]) hst fun h' hx=>?_;have I1:Inv X pins σ H { s with heap:=h' }:=I.kept (t':=s.toks) fun b o e=>hx b o (Nat.ne_of_lt (Heap.lt_size e)) e;exact h pins _ σ H xs _ Q I1 (by simpa using rv) hw
noncomputable def tAsg (te:TE) (g:TG):TS:=fun D σ H=>te σ H fun x H1=>g x σ H1 D.nx
theorem ps_asg {tg e:Expr} {te:TE} {g:TG} (he:PE X e te) (hg:PG X tg g) (hs:swapsWithSole [tg] e pos.line X.env=pure false:=by rfl) (hw:swappedStores [tg] e X.env=pure none:=by rfl)
  (h1:(assignEach [tg] X.env).map (·.2)=[assign tg X.env]:=by rfl):PS X (.Assign [tg] e pos) (tAsg te g):=by
 intro pins s σ H D I h;refine wpAny_Assign_stores (thn (he pins s σ H _ I h) fun v s1 ⟨x,H1,I1,r1,q1⟩=>?_) hs hw;rw [h1];exact thn (hg pins s1 σ H1 x v _ I1 r1 q1) fun _ s2 q=>q
theorem lS {i:Nat} {x:Str} {e:Expr} {te:TE} {pos':Pos} (hN:X.N.Nodup) (hi:X.N[i]?=some x) (hx:Loc X.env.scope x) (he:PE X e te) (hs:swapsWith e (some (.Name x pos')) pos.line X.env=pure false:=by rfl) (hf:X.fn x=true\/X.env.scope.names.lookup x=some .local:=by first | exact .inl rfl | exact .inr rfl | assumption) :
  PS X (.Assign [.Name x pos'] e pos) (tAsg te (nT i)):=by
 intro pins s σ H D I h;refine wpAny_Assign_Name (thn (he pins s σ H _ I h) fun v s1 ⟨y,H1,I1,r1,q1⟩=>?_) hs;exact gZ I1 hN hi hx r1 (fun s2 I2=>⟨_,H1,I2,q1⟩) hf
noncomputable def tPar (i j:Nat) (ta:TA):TS:=fun D σ H=>ta σ H fun vs H1=>∃ v w,vs=[v,w]/\D.nx ((σ.set i (some v)).set j (some w)) H1
theorem ps_par {i j:Nat} {x y:Str} {a b:Expr} {ta:TA} {px py pt:Pos} {kt k2 pt2} (hc:X.calm=true) (hN:X.N.Nodup) (hi:X.N[i]?=some x) (hj:X.N[j]?=some y) (hij:i≠j)
  (hx:X.env.scope.names.lookup x=some .local) (hy:X.env.scope.names.lookup y=some .local) (ha:PA X [a,b] ta)
  (hw:swappedStores [.Tuple [.Name x px,.Name y py] kt pt] (.Tuple [a,b] k2 pt2) X.env=pure (some [x,y]))
  (hs:swapsWithSole [.Tuple [.Name x px,.Name y py] kt pt] (.Tuple [a,b] k2 pt2) pos.line X.env=pure false:=by rfl) :
  PS X (.Assign [.Tuple [.Name x px,.Name y py] kt pt] (.Tuple [a,b] k2 pt2) pos) (tPar i j ta):=by
 intro pins s σ H D I h;rw [exec_Assign_arm];refine ub (wpAny_standAt ?_);rw [hs];refine ub (uc ?_);rw [if_neg (by decide)];refine ub (Tuple_ (thn (ha _ pins s σ H _ I h) fun us s1 ⟨vs,H1,I1,r1,q1⟩=>?_));obtain ⟨v,w,e1,q1⟩:=q1;subst e1;obtain ⟨u1,u2,rfl,rv,rw'⟩ : ∃ u1 u2,us=[u1,u2]/\RelV v u1/\RelV w u2:=by
  cases r1 with
  | cons p q=>
   cases q with
   | cons p' q'=>
    cases q';exact ⟨_,_,rfl,p,p'⟩
 refine wpAny_newObj_type ?_ (by show 2<=sizeLine;decide);have I2:Inv X pins σ H1 { s1 with heap:=s1.heap.push { cls:=.type "tuple",data:=.seq [u1,u2].toArray } }:=I1.kept (t':=s1.toks) fun b o e=>Heap.get?_push_of_some _ e;rw [hw];refine ub (uc ?_);show wpAny (model X.prog X.w) X.A (do rule "assign.swapped-stores";let items <-unpackItems (.ref s1.heap.objs.size) 2 none;assignInOrder [fun v=>bindName X.env y v,fun v=>bindName X.env x v] items.reverse;pure Flow.next) _ _ _;refine ub (wpAny_rule (ub (unpackItems_tuple (items:=#[u1,u2]) (I.ok.hd hc) (IsTup.new s1.heap _) fun h' hx'=>?_)));have I3:=I2.kept (h':=h') (t':=s1.toks) fun b o e=>hx' b o (Nat.ne_of_lt (Heap.lt_size e)) e;show wpAny _ _ (assignInOrder [fun v=>bindName X.env y v,fun v=>bindName X.env x v] [u2,u1] >>= fun _=>pure Flow.next) _ _ _;refine ub (assignInOrder_cons (wpAny_bindName (gZ I3 hN hj (.inl hy) rw' (fun s2 I4=>?_) (.inr hy))));refine assignInOrder_cons (wpAny_bindName (gZ I4 hN hi (.inl hx) rv (fun s3 I5=>assignInOrder_nil (uc ?_)) (.inr hx)));rw [List.set_comm _ _ (Ne.symm hij)] at I5;exact ⟨_,H1,I5,q1⟩
noncomputable def tAug (i:Nat) (te:TE) (ti:TIp):TS:=fun D σ H=>∃ x,σ[i]?=some (some x)/\te σ H fun y H1=>ti x y H1 fun z H2=>D.nx (σ.set i (some z)) H2
theorem ps_aug {i:Nat} {x:Str} {e:Expr} {te:TE} {op:Operator} {ti:TIp} {pos':Pos} (hN:X.N.Nodup) (hi:X.N[i]?=some x) (hx:Loc X.env.scope x) (he:PE X e te) (ho:PIp X op ti) (hf:X.fn x=true\/X.env.scope.names.lookup x=some .local:=by first | exact .inl rfl | exact .inr rfl | assumption) :
  PS X (.AugAssign (.Name x pos') op e pos) (tAug i te ti):=by
 intro pins s σ H D I h;obtain ⟨v,e1,h⟩:=h;obtain ⟨m,hn,hl⟩:=I.loc;have vis:Vis X.env.scope x:=by rcases hx with k | k;exact .inl k;exact .inr (.inl k)
 obtain ⟨u,r,l⟩:=hl i x v hi e1 vis;refine wpAny_AugAssign_Name ?_;have go:wpAny (model X.prog X.w) X.A (eval e X.env) (fun w s₂=>wpAny (model X.prog X.w) X.A (inplaceOp op u w) (fun r s₃=>wpAny (model X.prog X.w) X.A (storeName X.env x r) (fun _=>SP X pins D .next) X.xe s₃) X.xe s₂) X.xe s:=by
  refine thn (he pins s σ H _ I h) fun w s1 ⟨y,H1,I1,r1,q1⟩=>?_;refine thn (ho pins s1 σ H1 v y u w _ I1 r r1 q1) fun z s2 ⟨zv,H2,I2,r2,q2⟩=>?_;exact gZ I2 hN hi hx r2 (fun s3 I3=>⟨_,H2,I3,q2⟩) hf
 rcases l with ⟨hk,hm⟩ | ⟨hk,c,hc,hcell⟩
 ·exact wpAny_loadName_local I.ok.kind hk hn hm go
 ·rcases hk with hk | hk
  ·exact wpAny_loadName_cell I.ok.kind hk hc hcell go
  ·rcases hx with k | k
   ·have:X.env.scope.names.lookup x=some .free:=hk;rw [k] at this;cases this
   ·have:X.env.scope.names.lookup x=some .free:=hk;rw [k] at this;cases this
noncomputable def ipI (f:Int->Int->Int):TIp:=fun x y H Q=>∃ i j,x=.int i/\y=.int j/\Q (.int (f i j)) H
theorem ip_add:PIp X .Add (ipI fun i j=>i+j):=by
 intro pins s σ H x y v u Q I r1 r2 h;obtain ⟨i,j,e1,e2,q⟩:=h;subst e1;subst e2;obtain ⟨t,rfl⟩:=r1;obtain ⟨t',rfl⟩:=r2;exact iadd_int ⟨.int _,H,I.tok _,⟨_,rfl⟩,q⟩
end
section
variable {X:Cx} {pos:Pos}
noncomputable def tWhile (c:TT) (tb:TS):TS:=fun D σ H=>∃ W:Nat->St->Hp->Prop,(∃ m,W m σ H)/\∀ m σ H,W m σ H->
 c σ H fun b H1=>if b=true then ∃ N:St->Hp->Prop,(∀ σ' H',N σ' H'->∃ m',m'<m/\W m' σ' H')/\tb { D with nx:=N,ct:=N,bk:=D.nx } σ H1 else D.nx σ H1
theorem ps_while {c:Expr} {body:List Stmt} {tc:TT} {tb:TS} (hp:PassesOwn (model X.prog X.w) X.A X.env X.xe) (hc:PT X c tc) (hb:PSs X body tb):PS X (.While c body [] pos) (tWhile tc tb):=by
 intro pins s σ H D I h;obtain ⟨W,⟨m0,w0⟩,turn⟩:=h;refine wpAny_While (codeAny_whileLoop (fun n s'=>∃ σ' H',Inv X pins σ' H' s'/\W n σ' H') ?_ m0 ⟨σ,H,I,w0⟩);rintro n s1 ⟨σ1,H1,I1,w1⟩;refine wpAny_passesOwn hp (thn (hc pins s1 σ1 H1 _ I1 (turn n σ1 H1 w1)) fun b s2 ⟨H2,I2,q2⟩=>?_);cases b with
 | true=>
  obtain ⟨N,hN,q2⟩:=q2;rw [if_pos rfl];refine wpAny_passesOwn hp (thn (hb pins s2 σ1 H2 _ I2 q2) fun f s3 q3=>?_);cases f with
  | next=>
   obtain ⟨σ3,H3,I3,n3⟩:=q3;obtain ⟨m',hm,w3⟩:=hN σ3 H3 n3;exact ⟨m',hm,σ3,H3,I3,w3⟩
  | cont=>
   obtain ⟨σ3,H3,I3,n3⟩:=q3;obtain ⟨m',hm,w3⟩:=hN σ3 H3 n3;exact ⟨m',hm,σ3,H3,I3,w3⟩
  | brk=>exact q3
  | ret v=>exact q3
 | false=>
  rw [if_neg Bool.false_ne_true];exact wpAny_execs_nil ⟨σ1,H2,I2,q2⟩
end
structure It where
 go:Nat->Hp->Prop
 yld:Nat->Hp->V->Hp->Prop
 stop:Nat->Hp->Prop
noncomputable def FpOk (X:Cx) (pins:List (Addr×Obj)) (H:Hp) (b:Addr):Prop:=
 H b=none/\b≠X.env.locals/\b∉X.fs/\(b∈X.ex\/X.s₀.heap.objs.size<=b)/\(∀ x c,X.env.cells.lookup x=some c->c≠b)/\∀ p∈X.pn++pins,p.1≠b
theorem Inv.fpOk {X:Cx} {pins:List (Addr×Obj)} {σ:St} {H H':Hp} {s:Shared} {b:Addr} (I:Inv X pins σ H s) (hb:s.heap.objs.size<=b) (hn:H' b=none):FpOk X pins H' b:=by
 refine ⟨hn,Nat.ne_of_gt (Nat.lt_of_lt_of_le I.lt hb),I.nofs hb,.inr (Nat.le_trans I.sz hb),fun x c e z=>?_,fun p hp z=>?_⟩
 ·obtain ⟨v,q⟩:=I.cell x c e;exact absurd (Nat.lt_of_lt_of_le q.lt (by rw [z];exact hb)) (Nat.lt_irrefl _)
 ·exact absurd (Nat.lt_of_lt_of_le (Heap.lt_size (I.pin p hp).1) (by rw [z];exact hb)) (Nat.lt_irrefl _)
structure Turn (P:Program) (w:World) (K:Frag) (tg:Expr) (J:It) (fp:List Addr) (it:Addr) (tn:Nat->Heap->Prop):Prop where
 mem:it∈fp
 obj:∀ i h,tn i h->∀ b∈fp,∃ o,h.get? b=some o/\∀ v,o.data≠.cell v
 keep:∀ i h h',tn i h->(∀ b∈fp,∀ o,h.get? b=some o->h'.get? b=some o)->tn i h'
 item:∀ (X:Cx),X.prog=P->X.w=w->X.K=K->X.calm=true->∀ (i:Nat) (pins:List (Addr×Obj)) (s:Shared) (σ:St) (H:Hp) (E:Value->Shared->Prop),Inv X pins σ H s->(∀ b∈fp,FpOk X pins H b)->tn i s.heap->J.go i H->
  wpAny (model P w) X.A (pyNext (.ref it)) (fun r s1=>∃ u,r=some u/\
   wpAny (model P w) X.A (letOwnedTupleGo tg (.ref it) u) (fun _ s2=>∃ x H',Inv X pins σ H' s2/\RelV x u/\J.yld i H x H'/\tn (i+1) s2.heap/\∀ b∈fp,H' b=none) E s1) E s
 done:∀ (X:Cx),X.prog=P->X.w=w->X.K=K->X.calm=true->∀ (i:Nat) (pins:List (Addr×Obj)) (s:Shared) (σ:St) (H:Hp) (E:Value->Shared->Prop),Inv X pins σ H s->(∀ b∈fp,FpOk X pins H b)->tn i s.heap->J.stop i H->
  wpAny (model P w) X.A (pyNext (.ref it)) (fun r s1=>r=none/\Inv X pins σ H s1) E s
 self:∀ (A:Around) (i:Nat) (s:Shared) (Q:Value->Shared->Prop) (E:Value->Shared->Prop),tn i s.heap->Q (.ref it) s->wpAny (model P w) A (pyIter (.ref it)) Q E s
abbrev TI:=St->Hp->(It->Hp->Prop)->Prop
noncomputable def PIE (X:Cx) (pins:List (Addr×Obj)) (σ:St) (tg:Expr) (R:It->Hp->Prop) (itv:Value) (s2:Shared):Prop:=
 ∃ (it:Addr) (fp:List Addr) (tn:Nat->Heap->Prop) (J:It) (H':Hp),itv=.ref it/\Inv X pins σ H' s2/\Turn X.prog X.w X.K tg J fp it tn/\tn 0 s2.heap/\(∀ b∈fp,FpOk X pins H' b)/\R J H'
noncomputable def PI (X:Cx) (tg iter:Expr) (wi:TI):Prop:=
 ∀ (pins:List (Addr×Obj)) (s:Shared) (σ:St) (H:Hp) (R:It->Hp->Prop),Inv X pins σ H s->wi σ H R->
  wpAny (model X.prog X.w) X.A (eval iter X.env) (fun v s1=>wpAny (model X.prog X.w) X.A (pyIter v) (PIE X pins σ tg R) X.xe s1) X.xe s
theorem go_of {M:Model} {A:Around} {E:Value->Shared->Prop} {s:Shared} {tg:Expr} {it:Addr} {u:Value} {o:Obj} {n:String} {vs:Array Value} {Q:Unit->Shared->Prop} (ho:s.heap.get? it=some o) (hc:o.cls=.type n) (hd:o.data=.fields vs)
    (hn:["enumerate", "zip", "dict_itemiterator", "dict_reverseitemiterator", "odict_iterator", "itertools.zip_longest", "itertools.pairwise"].contains n=false) (hQ:Q () s):wpAny M A (letOwnedTupleGo tg (.ref it) u) Q E s:=by
  unfold letOwnedTupleGo;cases tg <;> first
    | exact uc hQ
    | (cases u <;> first
        | exact uc hQ
        | (refine ub (wpAny_load ho ?_)
           rw [hc,hd];show wpAny M A (if (["enumerate", "zip", "dict_itemiterator", "dict_reverseitemiterator", "odict_iterator", "itertools.zip_longest", "itertools.pairwise"].contains n&&vs[0]?==some (rawInt _))=true then _ else _) Q E s;rw [if_neg (by intro h;rw [hn,Bool.false_and] at h;cases h)];exact uc hQ))
noncomputable def Itl (K:Frag) (a:Addr):It:=
 ⟨fun i H=>∃ xs x,SqL K H a xs/\xs[i]?=some x,fun i H x H'=>H'=H/\∀ xs,SqL K H a xs->xs[i]?=some x,fun i H=>∃ xs,SqL K H a xs/\xs.length<=i⟩
noncomputable def Itr (lo:Int) (n:Nat):It:=⟨fun i _=>i<n,fun i H x H'=>H'=H/\x=.int (lo+i),fun i _=>n<=i⟩
theorem turn_list {P:Program} {w:World} {K:Frag} {tg:Expr} (a it:Addr):Turn P w K tg (Itl K a) [it] it (fun i h=>h.IsListIter it a i) where
 mem:=by simp
 obj:=fun i h st b hb=>by
  have e:b=it:=by simpa using hb
  subst e;obtain ⟨o,e,c,d⟩:=st;exact ⟨o,e,fun v z=>by rw [d] at z;cases z⟩
 keep:=fun i h h' st k=>st.at fun o e=>k it (by simp) o e
 item:=by
  intro X hP hw hK hc i pins s σ H E I hf st hg;subst hP hw hK;obtain ⟨xs,x,hq,hx⟩:=hg;obtain ⟨its,rv,p,hz⟩:=I.list hq;obtain ⟨u,hu,ru⟩:=rv.get hx;obtain ⟨f0,f1,f2,f3,f4,f5⟩:=hf it (by simp);refine wpAny_pyNext_list_item st p.isList (x:=u) (by simpa using hu) fun h' st' sb=>?_;have I1:Inv X pins σ H { s with heap:=h' }:=I.turned (t':=s.toks) (fun b o hb e=>(sb.2 b hb).trans e) f0 f1 f3 f4 f5;obtain ⟨o,e,c,d⟩:=id st';exact ⟨u,rfl,go_of (s:={ s with heap:=h' }) e c d (by decide) ⟨x,H,I1,ru,⟨rfl,fun ys hy=>by rw [I.list_inj hy hq];exact hx⟩,st',fun b hb=>(hf b hb).1⟩⟩
 done:=by
  intro X hP hw hK hc i pins s σ H E I hf st hg;subst hP hw hK;obtain ⟨xs,hq,hx⟩:=hg;obtain ⟨its,rv,p,hz⟩:=I.list hq;obtain ⟨f0,f1,f2,f3,f4,f5⟩:=hf it (by simp);have hl:=rv.length;exact wpAny_pyNext_list_end (I.ok.hd hc) st p.isList (by simp;omega) fun h' eb=>⟨rfl,I.turned (t':=s.toks) (fun b o hb e=>eb b o hb e) f0 f1 f3 f4 f5⟩
 self:=fun _ _ _ _ _ st h=>wpAny_pyIter_listiter st h
theorem rj {P:Program} {w:World} {K:Frag} {tg:Expr} (it:Addr) (lo:Int) (n:Nat):Turn P w K tg (Itr lo n) [it] it (fun i h=>IsRangeIter h it (lo+(i:Nat)*1) ((n:Int)-(i:Nat)) 1) where
 mem:=by simp
 obj:=fun i h st b hb=>by
  have e:b=it:=by simpa using hb
  subst e;exact ⟨_,st,fun v z=>by
   have z':Data.fields _=Data.cell v:=z;cases z'⟩
 keep:=fun i h h' st k=>k it (by simp) _ st
 item:=by
  intro X hP hw hK hc i pins s σ H E I hf st hg;subst hP hw hK;obtain ⟨f0,f1,f2,f3,f4,f5⟩:=hf it (by simp);have W:=Walks.range (prog:=X.prog) (w:=X.w) (I.ok.hd hc) it lo 1 n;refine W.item i s _ _ hg st fun v h' tk hv st' kk=>?_;obtain ⟨t,rfl⟩:=hv;have I1:Inv X pins σ H { s with heap:=h',toks:=tk }:=I.turned (fun b o hb e=>kk b o (by simpa using hb) e) f0 f1 f3 f4 f5;refine ⟨_,rfl,go_of (s:={ s with heap:=h',toks:=tk }) (n:="range_iterator") st' rfl rfl (by decide) ⟨.int (lo+i),H,I1,⟨t,?_⟩,⟨rfl,rfl⟩,st',fun b hb=>(hf b hb).1⟩⟩;rw [Int.mul_one]
 done:=by
  intro X hP hw hK hc i pins s σ H E I hf st hg;subst hP hw hK;obtain ⟨f0,f1,f2,f3,f4,f5⟩:=hf it (by simp);exact wpAny_pyNext_range_end (I.ok.hd hc) st (by have:n<=i:=hg;omega) fun h' eb=>⟨rfl,I.turned (t':=s.toks) (fun b o hb e=>eb b o hb e) f0 f1 f3 f4 f5⟩
 self:=fun _ _ _ _ _ st h=>wpAny_pyIter_rangeiter st h
section
variable {X:Cx} {tg:Expr}
noncomputable def iList (K:Frag) (tl:TE):TI:=fun σ H R=>tl σ H fun x H1=>∃ a,x=.ref a/\(∃ xs,SqL K H1 a xs)/\R (Itl K a) H1
theorem pi_list {l:Expr} {tl:TE} (hl:PE X l tl):PI X tg l (iList X.K tl):=by
 intro pins s σ H R I h;refine thn (hl pins s σ H _ I h) fun v s1 ⟨x,H1,I1,r1,q1⟩=>?_;obtain ⟨a,e,⟨xs,hq⟩,q⟩:=q1;subst e;cases r1;obtain ⟨its,rv,p,hz⟩:=I1.list hq;refine wpAny_pyIter_list p.isList ?_;refine ⟨s1.heap.objs.size,[s1.heap.objs.size],_,_,H1,rfl,I1.kept (t':=s1.toks) fun b o e=>Heap.get?_push_of_some _ e,turn_list a _,⟨_,Heap.get?_push_size _ rfl,rfl,rfl⟩,fun b hb=>?_,q⟩;have e:b=s1.heap.objs.size:=by simpa using hb
 subst e;exact I1.fpOk (Nat.le_refl _) (I1.hok.fresh (Nat.le_refl _))
theorem range_it {pins:List (Addr×Obj)} {σ:St} {H:Hp} {s:Shared} {R:It->Hp->Prop} {E:Value->Shared->Prop} {lo hi:Int} {t u v:Tok} {tk:Nat} (I:Inv X pins σ H s) (h1:-(2 ^ 62)<=lo) (h2:lo<2 ^ 62) (h3:-(2 ^ 62)<=hi) (h4:hi<2 ^ 62)
  (q:R (Itr lo (hi-lo).toNat) H):wpAny (model X.prog X.w) X.A (pyIter (.ref s.heap.objs.size)) (PIE X pins σ tg R) E { s with heap:=s.heap.push { cls:=.type "range",data:=.fields #[.int lo t,.int hi u,.int 1 v] },toks:=tk }:=by
 refine wpAny_pyIter_range (IsRange.new ..) (small_one h1 h2 h3 h4) ?_;have I1:Inv X pins σ H { s with heap:=s.heap.push { cls:=.type "range",data:=.fields #[.int lo t,.int hi u,.int 1 v] },toks:=tk }:=I.kept fun b o e=>Heap.get?_push_of_some _ e;refine ⟨(s.heap.push { cls:=.type "range",data:=.fields #[.int lo t,.int hi u,.int 1 v] }).objs.size,[(s.heap.push { cls:=.type "range",data:=.fields #[.int lo t,.int hi u,.int 1 v] }).objs.size],_,_,H,rfl,
  I1.kept (t':=tk) fun b o e=>Heap.get?_push_of_some _ e,rj _ lo (hi-lo).toNat,?_,fun b hb=>?_,q⟩
 ·have e1:lo+((0:Nat):Int)*1=lo:=by simp
  have e2:(((hi-lo).toNat:Nat):Int)-((0:Nat):Int)=Builtin.Range.rangeSize lo hi 1:=by rw [rangeSize_one];split <;> omega
  show IsRangeIter _ _ (lo+((0:Nat):Int)*1) ((((hi-lo).toNat:Nat):Int)-((0:Nat):Int)) 1;rw [e1,e2];exact Heap.get?_push_size _ rfl
 ·have e:b=(s.heap.push { cls:=.type "range",data:=.fields #[.int lo t,.int hi u,.int 1 v] }).objs.size:=by simpa using hb
  subst e;exact I1.fpOk (Nat.le_refl _) (I1.hok.fresh (Nat.le_refl _))
noncomputable def iRng1 (ta:TA):TI:=fun σ H R=>ta σ H fun vs H1=>∃ j:Int,vs=[.int j]/\-(2 ^ 62)<=j/\j<2 ^ 62/\R (Itr 0 j.toNat) H1
theorem pi_range1 {a:Expr} {ta:TA} {p pos:Pos} (hg:Gl X "range") (hm:X.mg "range" = none) (ha:PA X [a] ta) (hs:starEach [a] X.env=[(false,eval a X.env)]:=by rfl):PI X tg (.Call (.Name "range" p) [a] [] pos) (iRng1 ta):=by
 intro pins s σ H R I h;refine Call_ (lQ I hg hm boot_range (callWith_type1 (thn (ha pos pins s σ H _ I h) fun us s1 ⟨vs,H1,I1,r1,q1⟩=>?_) hs rfl));obtain ⟨j,e,q1,q2,q⟩:=q1;subst e;cases r1 with
 | cons r rr=>
  cases rr;obtain ⟨t,rfl⟩:=r;exact call_range_1 (range_it I1 (by omega) (by omega) q1 q2 (by simpa using q))
noncomputable def tFor (wi:TI) (g:TG) (tb:TS):TS:=fun D σ H=>wi σ H fun J H1=>∃ W:Nat->Nat->St->Hp->Prop,(∃ m,W 0 m σ H1)/\∀ i m σ H,W i m σ H->
 (J.stop i H/\D.nx σ H)\/(J.go i H/\∃ N:St->Hp->Prop,(∀ σ' H',N σ' H'->∃ m',m'<m/\W (i+1) m' σ' H')/\∀ x H',J.yld i H x H'->g x σ H' fun σ2 H2=>tb { D with nx:=N,ct:=N,bk:=D.nx } σ2 H2)
noncomputable def lT (fp:List Addr) (h:Heap):List (Addr×Obj):=fp.filterMap fun b=>(h.get? b).map fun o=>(b,o)
theorem gq {fp:List Addr} {h:Heap} {b:Addr} {o:Obj} (hb:b∈fp) (e:h.get? b=some o):(b,o)∈lT fp h:=List.mem_filterMap.mpr ⟨b,hb,by rw [e];rfl⟩
theorem of_pinsAt {fp:List Addr} {h:Heap} {p:Addr×Obj} (hp:p∈lT fp h):p.1∈fp/\h.get? p.1=some p.2:=by
 obtain ⟨b,hb,e⟩:=List.mem_filterMap.mp hp;cases q:h.get? b with
 | none=>rw [q] at e;cases e
 | some o=>
  rw [q] at e;have e':(b,o)=p:=Option.some.inj e;subst e';exact ⟨hb,q⟩
theorem Inv.pinned {pins:List (Addr×Obj)} {σ:St} {H:Hp} {s:Shared} {fp:List Addr} (I:Inv X pins σ H s) (hf:∀ b∈fp,FpOk X pins H b) (ho:∀ b∈fp,∃ o,s.heap.get? b=some o/\∀ v,o.data≠.cell v):Inv X (pins++lT fp s.heap) σ H s:=
 I.pins_of fun p hp=>(List.mem_append.mp hp).elim (fun z=>I.pin p (List.mem_append_right _ z)) fun z=>by
  obtain ⟨hb,e⟩:=of_pinsAt z;obtain ⟨f0,f1,f2,_⟩:=hf p.1 hb;obtain ⟨o,e',d⟩:=ho p.1 hb;rw [e] at e';cases e';exact ⟨e,f0,f1,f2,d⟩
theorem Inv.unpinned {pins pl:List (Addr×Obj)} {σ:St} {H:Hp} {s:Shared} (I:Inv X (pins++pl) σ H s):Inv X pins σ H s:=I.pins_of fun p hp=>I.pin p (List.mem_append_right _ (List.mem_append_left _ hp))
theorem ps_for {iter:Expr} {body:List Stmt} {wi:TI} {g:TG} {tb:TS} {pos:Pos} (hp:PassesOwn (model X.prog X.w) X.A X.env X.xe) (hc:X.calm=true) (hi:PI X tg iter wi) (hg:PG X tg g) (hb:PSs X body tb)
  (hs:∀ x,foldedSetIterable iter X.env x=pure x:=by intro _;rfl):PS X (.For tg iter body [] pos) (tFor wi g tb):=by
 intro pins s σ H D I h;refine wpAny_For (thn (hi pins s σ H _ I h) fun v s1 h1=>thn h1 fun itv s2 h2=>?_) hs;obtain ⟨it,fp,tn,J,H2,e,I2,T,st2,f2,W,⟨m0,w0⟩,turn⟩:=h2;subst e;have stat:∀ {H':Hp},(∀ b∈fp,H' b=none)->∀ b∈fp,FpOk X pins H' b:=fun hn b hb=>⟨hn b hb,(f2 b hb).2⟩;refine codeAny_forLoop_any (fun n s'=>∃ i σ' H',Inv X pins σ' H' s'/\tn i s'.heap/\(∀ b∈fp,H' b=none)/\W i n σ' H') ?_ m0 ⟨0,σ,H2,I2,st2,fun b hb=>(f2 b hb).1,w0⟩;rintro n s3 ⟨i,σ3,H3,I3,st3,fr3,w3⟩;rcases turn i n σ3 H3 w3 with ⟨stop,qn⟩ | ⟨go,N,hN,step⟩
 ·refine wpAny_passesOwn hp (thn (T.done X rfl rfl rfl hc i pins s3 σ3 H3 X.xe I3 (stat fr3) st3 stop) fun r s4 ⟨hr,I4⟩=>?_);subst hr;exact wpAny_execs_nil ⟨σ3,H3,I4,qn⟩
 ·refine wpAny_passesOwn hp (thn (T.item X rfl rfl rfl hc i pins s3 σ3 H3 X.xe I3 (stat fr3) st3 go) fun r s4 ⟨u,hr,h4⟩=>?_);subst hr;refine wpAny_passesOwn hp (thn h4 fun _ s5 ⟨x,H5,I5,r5,y5,st5,fr5⟩=>?_);have I5':=I5.pinned (stat fr5) (T.obj _ _ st5);refine wpAny_passesOwn hp (thn (hg _ s5 σ3 H5 x u _ I5' r5 (step x H5 y5)) fun _ s6 ⟨σ6,H6,I6,q6⟩=>?_);refine wpAny_passesOwn hp (thn (hb _ s6 σ6 H6 _ I6 q6) fun f s7 q7=>?_);have again:∀ {σ7:St} {H7:Hp},Inv X (pins++lT fp s5.heap) σ7 H7 s7->N σ7 H7->∃ m,m<n/\∃ i σ' H',Inv X pins σ' H' s7/\tn i s7.heap/\(∀ b∈fp,H' b=none)/\W i m σ' H':=fun {σ7 H7} I7 n7=>by
   obtain ⟨m',hm,w7⟩:=hN σ7 H7 n7;refine ⟨m',hm,i+1,σ7,H7,I7.unpinned,T.keep _ _ _ st5 fun b hb o e=>(I7.pin (b,o) (List.mem_append_right _ (List.mem_append_right _ (gq hb e)))).1,fun b hb=>?_,w7⟩;obtain ⟨o,e,d⟩:=T.obj _ _ st5 b hb;exact (I7.pin (b,o) (List.mem_append_right _ (List.mem_append_right _ (gq hb e)))).2.1
  cases f with
  | next=>obtain ⟨σ7,H7,I7,n7⟩:=q7;exact again I7 n7
  | cont=>obtain ⟨σ7,H7,I7,n7⟩:=q7;exact again I7 n7
  | brk=>obtain ⟨σ7,H7,I7,q7⟩:=q7;exact ⟨σ7,H7,I7.unpinned,q7⟩
  | ret v=>obtain ⟨x7,σ7,H7,I7,r7,q7⟩:=q7;exact ⟨x7,σ7,H7,I7.unpinned,r7,q7⟩
end
abbrev R2:=V->V->Hp->VK->Prop
noncomputable def OpR (X:Cx) (f:Value->Value->Sem Value) (r:R2):Prop:=
 ∀ (pins:List (Addr×Obj)) (s:Shared) (σ:St) (H:Hp) (x y:V) (v u:Value) (Q:VK),Inv X pins σ H s->RelV x v->RelV y u->r x y H Q->
  wpAny (model X.prog X.w) X.A (f v u) (EP X pins σ Q) X.xe s
noncomputable def UnR (X:Cx) (f:Value->Sem Value) (r:V->Hp->VK->Prop):Prop:=
 ∀ (pins:List (Addr×Obj)) (s:Shared) (σ:St) (H:Hp) (x:V) (v:Value) (Q:VK),Inv X pins σ H s->RelV x v->r x H Q->
  wpAny (model X.prog X.w) X.A (f v) (EP X pins σ Q) X.xe s
noncomputable def ce (X:Cx) (f:Value) (r:List V->Hp->VK->Prop):Prop:=
 ∀ (pins:List (Addr×Obj)) (s:Shared) (σ:St) (H:Hp) (xs:List V) (us:List Value) (Q:VK),Inv X pins σ H s->aQ xs us->r xs H Q->
  wpAny (model X.prog X.w) X.A (call f us) (EP X pins σ Q) X.xe s
noncomputable def tOp (r:R2) (ta tb:TE):TE:=fun σ H Q=>ta σ H fun x H1=>tb σ H1 fun y H2=>r x y H2 Q
noncomputable def tUn (r:V->Hp->VK->Prop) (ta:TE):TE:=fun σ H Q=>ta σ H fun x H1=>r x H1 Q
noncomputable def rI (C:Int->Int->Prop) (g:Int->Int->V):R2:=fun x y H Q=>∃ i j,x=.int i/\y=.int j/\C i j/\Q (g i j) H
noncomputable def rI0 (g:Int->Int->V):R2:=fun x y H Q=>∃ i j,x=.int i/\y=.int j/\Q (g i j) H
noncomputable def rU (g:Int->V):V->Hp->VK->Prop:=fun x H Q=>∃ i,x=.int i/\Q (g i) H
section
variable {X:Cx} {a b c:Expr} {ta tb tc:TE} {pos:Pos}
theorem binT (ha:PE X a ta) (hb:PE X b tb) {pins:List (Addr×Obj)} {s:Shared} {σ:St} {H:Hp} {R:V->V->Hp->Prop} (I:Inv X pins σ H s)
  (h:ta σ H fun x H1=>tb σ H1 fun y H2=>R x y H2) {Q:Value->Shared->Prop} {f:Value->Value->Sem Value}
  (hf:∀ v u s2 x y H2,Inv X pins σ H2 s2->RelV x v->RelV y u->R x y H2->wpAny (model X.prog X.w) X.A (f v u) Q X.xe s2) :
  wpAny (model X.prog X.w) X.A (eval a X.env) (fun v s₁=>wpAny (model X.prog X.w) X.A (eval b X.env) (fun u s₂=>wpAny (model X.prog X.w) X.A (f v u) Q X.xe s₂) X.xe s₁) X.xe s:=by
 refine thn (ha pins s σ H _ I h) fun v s1 ⟨x,H1,I1,r1,q1⟩=>?_;refine thn (hb pins s1 σ H1 _ I1 q1) fun u s2 ⟨y,H2,I2,r2,q2⟩=>?_;exact hf v u s2 x y H2 I2 r1 r2 q2
theorem pe_op {op:Operator} {r:R2} (ho:OpR X (binaryOp op) r) (ha:PE X a ta) (hb:PE X b tb):PE X (.BinOp a op b pos) (tOp r ta tb):=by
 intro pins s σ H Q I h;exact wpAny_BinOp (binT ha hb I h fun v u s2 x y H2 I2 rx ry q=>ho pins s2 σ H2 x y v u Q I2 rx ry q)
theorem pe_un {op:UnaryOp} {r:V->Hp->VK->Prop} (ho:UnR X (unaryOp op) r) (ha:PE X a ta):PE X (.UnaryOp op a pos) (tUn r ta):=by
 intro pins s σ H Q I h;exact UnaryOp_ (thn (ha pins s σ H _ I h) fun v s1 ⟨x,H1,I1,r1,q1⟩=>ho pins s1 σ H1 x v Q I1 r1 q1)
theorem opI {f:Value->Value->Sem Value} {C:Int->Int->Prop} {g:Int->Int->Int}
  (rule:∀ (i j:Int) (t u:Tok) (s:Shared) (Q:Value->Shared->Prop) (E:Value->Shared->Prop),C i j->Q (.int (g i j) s.toks) { s with toks:=s.toks+1 }->wpAny (model X.prog X.w) X.A (f (.int i t) (.int j u)) Q E s) :
  OpR X f (rI C fun i j=>.int (g i j)):=by
 intro pins s σ H x y v u Q I rx ry h;obtain ⟨i,j,rfl,rfl,hc,q⟩:=h;obtain ⟨t,rfl⟩:=rx;obtain ⟨t',rfl⟩:=ry;exact rule i j t t' s _ _ hc ⟨.int (g i j),H,I.tok _,⟨_,rfl⟩,q⟩
theorem opI0 {f:Value->Value->Sem Value} {g:Int->Int->Int}
  (rule:∀ (i j:Int) (t u:Tok) (s:Shared) (Q:Value->Shared->Prop) (E:Value->Shared->Prop),Q (.int (g i j) s.toks) { s with toks:=s.toks+1 }->wpAny (model X.prog X.w) X.A (f (.int i t) (.int j u)) Q E s) :
  OpR X f (rI0 fun i j=>.int (g i j)):=by
 intro pins s σ H x y v u Q I rx ry h;obtain ⟨i,j,rfl,rfl,q⟩:=h;obtain ⟨t,rfl⟩:=rx;obtain ⟨t',rfl⟩:=ry;exact rule i j t t' s _ _ ⟨.int (g i j),H,I.tok _,⟨_,rfl⟩,q⟩
theorem opB0 {f:Value->Value->Sem Value} {g:Int->Int->Bool}
  (rule:∀ (i j:Int) (t u:Tok) (s:Shared) (Q:Value->Shared->Prop) (E:Value->Shared->Prop),Q (.bool (g i j)) s->wpAny (model X.prog X.w) X.A (f (.int i t) (.int j u)) Q E s) :
  OpR X f (rI0 fun i j=>.bl (g i j)):=by
 intro pins s σ H x y v u Q I rx ry h;obtain ⟨i,j,rfl,rfl,q⟩:=h;obtain ⟨t,rfl⟩:=rx;obtain ⟨t',rfl⟩:=ry;exact rule i j t t' s _ _ ⟨.bl (g i j),H,I,rfl,q⟩
noncomputable def CMul (i j:Int):Prop:=(-(2 ^ 64)<i/\i<2 ^ 64)\/(-(2 ^ 64)<j/\j<2 ^ 64)
theorem CMul.ok {i j:Int} (h:CMul i j):IntMulOk i j:=by
 rcases h with ⟨h1,h2⟩ | ⟨h1,h2⟩
 ·exact .of_left (intBits_le_64 h1 h2)
 ·exact .of_right (intBits_le_64 h1 h2)
theorem op_add:OpR X (binaryOp .Add) (rI0 fun i j=>.int (i+j)):=opI0 fun _ _ _ _ _ _ _ q=>add_int q
theorem op_sub:OpR X (binaryOp .Sub) (rI0 fun i j=>.int (i-j)):=opI0 fun _ _ _ _ _ _ _ q=>sub_int q
theorem op_mul:OpR X (binaryOp .Mult) (rI CMul fun i j=>.int (i*j)):=opI fun _ _ _ _ _ _ _ hc q=>mul_int q hc.ok
theorem op_mod:OpR X (binaryOp .Mod) (rI (fun _ j=>0<j) fun i j=>.int (i % j)):=opI fun i j _ _ _ _ _ hc q=>by
 have h1:(0:Int)<j:=hc;exact mod_int' (by omega) (by rw [Int.fmod_eq_emod_of_nonneg i (by omega)];exact q)
theorem unI {f:Value->Sem Value} {g:Int->Int}
  (rule:∀ (i:Int) (t:Tok) (s:Shared) (Q:Value->Shared->Prop) (E:Value->Shared->Prop),Q (.int (g i) s.toks) { s with toks:=s.toks+1 }->wpAny (model X.prog X.w) X.A (f (.int i t)) Q E s) :
  UnR X f (rU fun i=>.int (g i)):=by
 intro pins s σ H x v Q I rx h;obtain ⟨i,rfl,q⟩:=h;obtain ⟨t,rfl⟩:=rx;exact rule i t s _ _ ⟨.int (g i),H,I.tok _,⟨_,rfl⟩,q⟩
theorem un_neg:UnR X (unaryOp .USub) (rU fun i=>.int (-i)):=unI fun _ _ _ _ _ q=>neg_int q
end
section
variable {X:Cx} {a b c:Expr} {ta tb tc:TE} {pos:Pos}
theorem fin_bl {pins:List (Addr×Obj)} {σ:St} {H:Hp} {s:Shared} {Q:VK} {k k':Bool} (I:Inv X pins σ H s) (q:Q (.bl k) H) (e:k=k'):EP X pins σ Q (.bool k') s:=by
 subst e;exact ⟨.bl k,H,I,rfl,q⟩
theorem op_lt:OpR X (compareOp .Lt) (rI0 fun i j=>.bl (decide (i<j))):=opB0 fun _ _ _ _ _ _ _ q=>lt_int q
theorem op_le:OpR X (compareOp .LtE) (rI0 fun i j=>.bl (decide (i<=j))):=opB0 fun _ _ _ _ _ _ _ q=>le_int q
theorem op_gt:OpR X (compareOp .Gt) (rI0 fun i j=>.bl (decide (j<i))):=opB0 fun _ _ _ _ _ _ _ q=>gt_int q
theorem op_ge:OpR X (compareOp .GtE) (rI0 fun i j=>.bl (decide (j<=i))):=opB0 fun _ _ _ _ _ _ _ q=>ge_int q
theorem lU (b:Expr) {op:CmpOp} (h:op≠.In:=by decide) (h2:op≠.NotIn:=by decide):behindInMarks op b=false:=by
 have e1:(op==CmpOp.In)=false:=by cases op <;> first | rfl | exact absurd rfl h
 have e2:(op==CmpOp.NotIn)=false:=by cases op <;> first | rfl | exact absurd rfl h2
 cases b <;> simp [behindInMarks,e1,e2]
theorem pe_cmpR {op:CmpOp} {r:R2} (ho:OpR X (compareOp op) r) (ha:PE X a ta) (hb:PE X b tb) (hm:behindInMarks op b=false):PE X (.Compare a [op] [b] pos) (tOp r ta tb):=by
 intro pins s σ H Q I h;exact wpAny_Compare1 (binT ha hb I h fun v u s2 x y H2 I2 rx ry q=>ho pins s2 σ H2 x y v u Q I2 rx ry q) hm
noncomputable def tTest (t:TE):TT:=fun σ H Q=>t σ H fun x H'=>∃ k,x=.bl k/\Q k H'
theorem pt_cmpR {op:CmpOp} {r:R2} (ho:OpR X (compareOp op) r) (ha:PE X a ta) (hb:PE X b tb) (hm:behindInMarks op b=false):PT X (.Compare a [op] [b] pos) (tTest (tOp r ta tb)):=by
 intro pins s σ H Q I h;refine wpAny_isTrue_Compare1 (thn (ha pins s σ H _ I h) fun v s1 ⟨x,H1,I1,r1,q1⟩=>thn (hb pins s1 σ H1 _ I1 q1) fun u s2 ⟨y,H2,I2,r2,q2⟩=>
  thn (ho pins s2 σ H2 x y v u _ I2 r1 r2 q2) fun c s3 ⟨z,H3,I3,r3,k,e,q3⟩=>?_) hm
 subst e;cases r3;exact wpAny_truthy_bool ⟨H3,I3,q3⟩
noncomputable def tChain (r r':R2) (ta tb tc:TE):TE:=fun σ H Q=>ta σ H fun x H1=>tb σ H1 fun y H2=>r x y H2 fun z H3=>∃ k,z=.bl k/\
 (if k=true then tc σ H3 fun w' H4=>r' y w' H4 Q else Q (.bl false) H3)
theorem pe_chain {op op':CmpOp} {r r':R2} (ho:OpR X (compareOp op) r) (ho':OpR X (compareOp op') r') (ha:PE X a ta) (hb:PE X b tb) (hc:PE X c tc)
  (hm:lastMarks [op,op'] [b,c]=false:=by with_unfolding_all rfl):PE X (.Compare a [op,op'] [b,c] pos) (tChain r r' ta tb tc):=by
 intro pins s σ H Q I h;refine Compare_chain (thn (ha pins s σ H _ I h) fun v s1 ⟨x,H1,I1,r1,q1⟩=>chain_link (thn (hb pins s1 σ H1 _ I1 q1) fun u s2 ⟨y,H2,I2,r2,q2⟩=>
  thn (ho pins s2 σ H2 x y v u _ I2 r1 r2 q2) fun d s3 ⟨z,H3,I3,r3,k,e,q3⟩=>?_)) hm
 subst e;cases r3;refine wpAny_truthy_bool ?_;cases k with
 | false=>exact ite_ff ⟨.bl false,H3,I3,rfl,q3⟩
 | true=>exact ite_tt (chain_last (thn (hc pins s3 σ H3 _ I3 q3) fun w' s4 ⟨z',H4,I4,r4,q4⟩=>ho' pins s4 σ H4 y z' u w' Q I4 r2 r4 q4))
theorem pt_chain {op op':CmpOp} {r r':R2} (ho:OpR X (compareOp op) r) (ho':OpR X (compareOp op') r') (ha:PE X a ta) (hb:PE X b tb) (hc:PE X c tc)
  (hm:lastMarks [op,op'] [b,c]=false:=by with_unfolding_all rfl):PT X (.Compare a [op,op'] [b,c] pos) (tTest (tChain r r' ta tb tc)):=by
 intro pins s σ H Q I h;refine isTrue_chain (thn (ha pins s σ H _ I h) fun v s1 ⟨x,H1,I1,r1,q1⟩=>test_link (thn (hb pins s1 σ H1 _ I1 q1) fun u s2 ⟨y,H2,I2,r2,q2⟩=>
  thn (ho pins s2 σ H2 x y v u _ I2 r1 r2 q2) fun d s3 ⟨z,H3,I3,r3,k,e,q3⟩=>?_)) hm
 subst e;cases r3;refine wpAny_truthy_bool ?_;cases k with
 | false=>
  obtain ⟨k',e',q'⟩:=q3;cases e';exact ite_ff ⟨H3,I3,q'⟩
 | true=>
  refine ite_tt (test_last (thn (hc pins s3 σ H3 _ I3 q3) fun w' s4 ⟨z',H4,I4,r4,q4⟩=>thn (ho' pins s4 σ H4 y z' u w' _ I4 r2 r4 q4) fun d' s5 ⟨z2,H5,I5,r5,k2,e2,q5⟩=>?_));subst e2;cases r5;exact wpAny_truthy_bool ⟨H5,I5,q5⟩
theorem oO:(sizeLine:Nat)<2 ^ 63:=by rw [sizeLine_eq];decide
theorem rk:OpR X (binaryOp .Add) (fun x y H Q=>∃ i j,x=.str i/\y=.str j/\i.length+j.length<=sizeLine/\Q (.str (i++j)) H):=by
 intro pins s σ H x y v u Q I rx ry h;obtain ⟨i,j,rfl,rfl,hz,q⟩:=h;obtain ⟨t,rfl⟩:=rx;obtain ⟨t',rfl⟩:=ry;exact add_str (fun t' tk=>⟨.str (i++j),H,I.tok _,⟨_,rfl⟩,q⟩) hz
theorem vals1 {x:V} {us:List Value} (r:aQ [x] us):∃ u,us=[u]/\RelV x u:=by
 cases r with
 | cons r1 r2=>cases r2;exact ⟨_,rfl,r1⟩
theorem vals2 {x y:V} {us:List Value} (r:aQ [x,y] us):∃ u w',us=[u,w']/\RelV x u/\RelV y w':=by
 cases r with
 | cons r1 r2=>
  cases r2 with
  | cons r3 r4=>cases r4;exact ⟨_,_,rfl,r1,r3⟩
theorem call_max2 (hc:X.calm=true):ce X (.builtin "max") (fun xs H Q=>∃ i j,xs=[.int i,.int j]/\Q (.int (if j>i then j else i)) H):=by
 intro pins s σ H xs us Q I r h;obtain ⟨i,j,rfl,q⟩:=h;obtain ⟨u,w',rfl,⟨t,rfl⟩,⟨t',rfl⟩⟩:=vals2 r;refine max_two_ints (I.ok.hd hc) fun h' tk k=>⟨_,H,I.kept k,?_,q⟩;by_cases hj:j>i
 ·rw [if_pos hj,if_pos hj];exact ⟨_,rfl⟩
 ·rw [if_neg hj,if_neg hj];exact ⟨_,rfl⟩
theorem call_min2 (hc:X.calm=true):ce X (.builtin "min") (fun xs H Q=>∃ i j,xs=[.int i,.int j]/\Q (.int (if j<i then j else i)) H):=by
 intro pins s σ H xs us Q I r h;obtain ⟨i,j,rfl,q⟩:=h;obtain ⟨u,w',rfl,⟨t,rfl⟩,⟨t',rfl⟩⟩:=vals2 r;refine min_two_ints (I.ok.hd hc) fun h' tk k=>⟨_,H,I.kept k,?_,q⟩;by_cases hj:j<i
 ·rw [if_pos hj,if_pos hj];exact ⟨_,rfl⟩
 ·rw [if_neg hj,if_neg hj];exact ⟨_,rfl⟩
end
structure ObjM (h:Heap) (x dx C:Addr) (mA:Str->Option Value):Prop where
 obj:h.get? x=some (instObj C dx)
 ns:h.Ns1 dx mA
 ne:dx≠x
theorem lookIn_ns {h:Heap} {dx:Addr} {mA:Str->Option Value} (n:h.Ns1 dx mA):∃ od,h.get? dx=some od/\∀ name,lookIn name od=some (mA name):=by
 obtain ⟨o,es,ep,ho,hd,hk,_,hm⟩:=n;refine ⟨o,ho,fun name=>?_⟩;have e:=hm name;unfold nsFind findBy at e;rw [<-Array.find?_toList] at e;unfold lookIn;rw [hd];dsimp only;split
 ·rename_i y q;rw [q] at e;exact congrArg some e
 ·rename_i q;rw [q] at e;have a:es.toList.any (·.refKey)=false:=by
   rw [List.any_eq_false];intro y hy;obtain ⟨z,t,hkey⟩:=hk y (Array.mem_toList_iff.mp hy);simp [DictEntry.refKey,hkey]
  have a':¬es.toList.any (·.refKey)=true:=by rw [a];exact Bool.false_ne_true
  rw [if_neg a'];exact congrArg some e
theorem ObjM.look {h:Heap} {x dx C:Addr} {mA:Str->Option Value} (I:ObjM h x dx C mA):∃ od,InstAt h x (instObj C dx) C (some od)/\∀ name,lookIn name od=some (mA name):=
 let ⟨od,ho,hl⟩:=lookIn_ns I.ns
 ⟨od,⟨I.obj,rfl,rfl,ho⟩,hl⟩
section
variable {prog:Program} {w:World} {A:Around} {E:Value->Shared->Prop} {s:Shared} {K:Frag} {x dx C f:Addr} {mA:Str->Option Value} {name:Str} {v:Value}
theorem get_map {expr:Bool} {Q:Value->Shared->Prop} (X:K.In s.heap) (I:ObjM s.heap x dx C mA) (hg:plainGet K C name=true) (hh:hasDictIn K C=true)
  (ha:findIn K (.ref C) name=some none) (hv:mA name=some v) (hv':handedIn v=true) (h:Q v { s with toks:=s.toks+1 }) :
  wpAny (model prog w) A (getAttr (.ref x) name expr) Q E s:=by
 obtain ⟨od,J,hl⟩:=I.look;exact PySem.W.get_value X J (plainGet_of hg).1 (PySem.W.findObj_own hh ha rfl (by rw [hl,hv])) hv' h
theorem get_meth {pl:Sem Bool} {Q:Value×List Value->Shared->Prop} (X:K.In s.heap) (I:ObjM s.heap x dx C mA) (hg:plainGet K C name=true)
  (hf:findIn K (.ref C) name=some (some (.ref f))) (ht:isFn K (.ref f)=true) (hv:mA name=none) (h:Q (.ref f,[.ref x]) s) :
  wpAny (model prog w) A (getMethod (.ref x) name pl) Q E s:=by
 obtain ⟨od,J,hl⟩:=I.look;exact PySem.W.method_fn X J (plainGet_of hg).1 (plainGet_of hg).2 hf (beq_iff_eq.mp ht) (by show (lookIn name od).map (·.isSome)=some false;rw [hl,hv];rfl) h
theorem set_map {ns:List Str} {Q:Unit->Shared->Prop} (X:K.In s.heap) (I:ObjM s.heap x dx C mA)
  (hs:findIn K (.ref C) "__setattr__" = some (some (.builtin "object.__setattr__"))) (hp:plainOver K C=true) (ht:takerIn K C name=some none) (hh:hasDictIn K C=true)
  (hw:PySem.Within mA ns) (hsz:ns.length<=sizeLine)
  (h:∀ h',ObjM h' x dx C (fun y=>if y=name then some v else mA y)->Heap.SameBut dx s.heap h'->Q () { s with heap:=h',toks:=s.toks+2 }) :
  wpAny (model prog w) A (setAttr (.ref x) name v) Q E s:=by
 obtain ⟨od,J,hl⟩:=I.look;refine PySem.W.set_plain X J hs (PySem.W.osa_open (s:={ s with toks:=s.toks+1 }) (r:=none) X J hp ht fun b=>?_);obtain ⟨cd,hc,hd'⟩:=PySem.W.any_some hh;have hx:s.heap.get? x=some ⟨.ref C,some dx,.plain,#[]⟩:=I.obj;refine ub (uc (ub (ub (wpAny_loadPart hx (ub (PySem.W.Looks.here (s:={ s with toks:=s.toks+1 }) (PySem.W.looks_clsIn X hc) ?_))))));rw [hd'];refine uc (a:=some dx) (ub (uc (ub ?_)));refine wpAny_nsSet1 (s:={ s with toks:=s.toks+1 }) I.ns fun h' hn2 hs2=>?_;obtain ⟨oD,esD,epD,hoD,hdD,hcD⟩:=hn2.count (PySem.Within.cons name v hw);refine ub (wpAny_lookBehind hoD (by rw [hdD];exact pastItsLine_dict (Nat.le_trans hcD (by rw [List.length_cons];omega))) ?_);exact uc (h _ ⟨(hs2.2 _ (Ne.symm I.ne)).trans I.obj,hn2,I.ne⟩ hs2)
theorem make_map {R:Result->Shared->Prop} {vs:List Value} {kw:List (Str×Value)} (X:K.In s.heap) (hm:makesIn K C=true)
  (hi:findIn K (.ref C) "__init__" = some (some (.ref f))) (hf:typeIn K (.ref f)=some (.type "function"))
  (h:codeAny (model prog w) (A.under (.builtin "type.__call__" ⟨.ref C::vs,kw⟩)) (.call (.ref f) ⟨.ref (s.heap.objs.size+1)::vs,kw⟩) (PySem.W.InitBack (s.heap.objs.size+1) R)
   { s with heap:=(s.heap.push emptyDict).push (instObj C s.heap.objs.size) }) :
  codeAny (model prog w) A (.call (.ref C) ⟨vs,kw⟩) R s:=by
 obtain ⟨hh,g,d,t,os⟩:=s;exact PySem.W.make_core (PySem.W.makes_of X hm) (PySem.W.looks_findIn X hi) (fun self=>PySem.W.bind_fn X self hf) (.inl rfl) h
end
noncomputable def gV (f:Str) (v:V):List (Str×V)->List (Str×V)
  | []=>[(f,v)]
  | (g,x)::r=>if g=f then (g,v)::r else (g,x)::gV f v r
theorem kC (f g:Str) (v:V):∀ fs:List (Str×V),(gV f v fs).lookup g=if g=f then some v else fs.lookup g
  | []=>by
    show List.lookup g [(f,v)]=_;by_cases h:g=f
    . have hb:(g==f)=true:=beq_iff_eq.mpr h
      simp only [List.lookup,hb,if_pos h]
    . have hb:(g==f)=false:=beq_eq_false_iff_ne.mpr h
      simp only [List.lookup,hb,if_neg h]
  | (k,x)::r=>by
    have ih:=kC f g v r;rw [show gV f v ((k,x)::r)=(if k=f then (k,v)::r else (k,x)::gV f v r) from rfl];by_cases hk:k=f
    . rw [if_pos hk]
      by_cases h:g=k
      . have hb:(g==k)=true:=beq_iff_eq.mpr h
        simp only [List.lookup,hb,if_pos (h.trans hk)]
      . have hb:(g==k)=false:=beq_eq_false_iff_ne.mpr h
        simp only [List.lookup,hb,if_neg (fun e:g=f=>h (e.trans hk.symm))]
    . rw [if_neg hk]
      by_cases h:g=k
      . have hb:(g==k)=true:=beq_iff_eq.mpr h
        simp only [List.lookup,hb,if_neg (fun e:g=f=>hk (h.symm.trans e))]
      . have hb:(g==k)=false:=beq_eq_false_iff_ne.mpr h
        simp only [List.lookup,hb];exact ih
theorem j7 (f:Str) (v:V):∀ fs:List (Str×V),f∈(gV f v fs).map (·.1)/\∀ g,g∈fs.map (·.1)->g∈(gV f v fs).map (·.1)
  | []=>⟨by simp [gV],fun g h=>by simp at h⟩
  | (k,x)::r=>by
    obtain ⟨i1,i2⟩:=j7 f v r;rw [show gV f v ((k,x)::r)=(if k=f then (k,v)::r else (k,x)::gV f v r) from rfl];by_cases hk:k=f
    . rw [if_pos hk]
      subst hk;exact ⟨by simp,fun g h=>by simpa using h⟩
    . rw [if_neg hk]
      refine ⟨?_,fun g h=>?_⟩
      . rw [List.map_cons]
        exact uf _ i1
      . rw [List.map_cons] at h ⊢
        rcases List.mem_cons.mp h with e | e
        . exact List.mem_cons.mpr (.inl e)
        . exact uf _ (i2 g e)
theorem kD (f:Str) (v:V):∀ fs:List (Str×V),(gV f v fs).length<=fs.length+1
  | []=>by simp [gV]
  | (k,x)::r=>by
    have ih:=kD f v r;rw [show gV f v ((k,x)::r)=(if k=f then (k,v)::r else (k,x)::gV f v r) from rfl];by_cases hk:k=f
    . rw [if_pos hk,List.length_cons,List.length_cons];omega
    . rw [if_neg hk,List.length_cons,List.length_cons];omega
theorem RelO.some_of {v:V} {o:Option Value} (r:RelO (some v) o):∃ u,o=some u/\RelV v u:=by
 cases o with
 | none=>exact (show False from r).elim
 | some u=>exact ⟨u,rfl,r⟩
theorem RelO.none_of {o:Option Value} (r:RelO none o):o=none:=by
 cases o with
 | none=>rfl
 | some u=>exact (show False from r).elim
theorem handed_of {v:V} {u:Value} (r:RelV v u):handedIn u=true:=by
 cases v with
 | non=>cases (show u=Value.none from r);rfl
 | bl b=>cases (show u=Value.bool b from r);rfl
 | int i=>obtain ⟨t,e⟩:=(show ∃ t,u=Value.int i t from r);cases e;rfl
 | str x=>obtain ⟨t,e⟩:=(show ∃ t,u=Value.str x t from r);cases e;rfl
 | byt b=>obtain ⟨t,e⟩:=(show ∃ t,u=Value.bytes b t from r);cases e;rfl
 | flt b=>obtain ⟨t,e⟩:=(show ∃ t,u=Value.float b t from r);cases e;rfl
 | ref a=>cases (show u=Value.ref a from r);rfl
 | ty n=>cases (show u=Value.type n from r);rfl
section
variable {P:Program} {w:World} {H H':Hp} {h h':Heap} {a C dx:Addr} {fs fs':List (Str×V)}
theorem lB (hok:HOk P w H h) (e:H a=some (.ins C dx fs)):∃ mA,ObjM h a dx C mA/\(∀ f,RelO (fs.lookup f) (mA f))/\PySem.Within mA (fs.map (·.1))/\fs.length<=1000/\H dx=some (.own a):=by
 obtain ⟨d,z,ne,ob,mA,n,r,q⟩:=(show cN P w H h a (.ins C dx fs) from hok a _ e);exact ⟨mA,⟨ob,n,ne⟩,r,q,z,d⟩
end
structure Cls (K:Frag) (C:Addr):Prop where
 pg:plainGet K C Str.empty=true
 hd:hasDictIn K C=true
 po:plainOver K C=true
 sa:findIn K (.ref C) "__setattr__" = some (some (.builtin "object.__setattr__"))
theorem Cls.get {K:Frag} {C:Addr} (c:Cls K C) (f:Str):plainGet K C f=true:=c.pg
noncomputable def NoAttr (K:Frag) (C:Addr) (f:Str):Prop:=findIn K (.ref C) f=some none
theorem NoAttr.taker {K:Frag} {C:Addr} {f:Str} (n:NoAttr K C f):takerIn K C f=some none:=by
 unfold takerIn;rw [show findIn K (.ref C) f=some none from n];rfl
structure Meth (K:Frag) (C:Addr) (m:Str) (f:Addr):Prop where
 at_:findIn K (.ref C) m=some (some (.ref f))
 fn:isFn K (.ref f)=true
 kp:keepIn K (.ref f)=true
section
variable {X:Cx} {pins:List (Addr×Obj)} {σ:St} {H:Hp} {s:Shared} {a C dx:Addr} {fs:List (Str×V)} {f:Str} {v:V} {A:Around} {E:Value->Shared->Prop}
theorem rl {b:Bool} {Q:Value->Shared->Prop} (I:Inv X pins σ H s) (e:H a=some (.ins C dx fs)) (c:Cls X.K C) (n:NoAttr X.K C f) (l:fs.lookup f=some v)
  (h:∀ u s',Inv X pins σ H s'->RelV v u->Q u s'):wpAny (model X.prog X.w) A (getAttr (.ref a) f b) Q E s:=by
 obtain ⟨mA,O,r,_,_,_⟩:=lB I.hok e;obtain ⟨u,hu,ru⟩:=RelO.some_of (v:=v) (o:=mA f) (by rw [<-l];exact r f);exact get_map I.kIn O (c.get f) c.hd n hu (handed_of ru) (h u _ (I.tok _) ru)
theorem iZ {m:Str} {g:Addr} {pl:Sem Bool} {Q:Value×List Value->Shared->Prop} (I:Inv X pins σ H s) (e:H a=some (.ins C dx fs)) (c:Cls X.K C) (k:Meth X.K C m g) (l:fs.lookup m=none)
  (h:Q (.ref g,[.ref a]) s):wpAny (model X.prog X.w) A (getMethod (.ref a) m pl) Q E s:=by
 obtain ⟨mA,O,r,_,_,_⟩:=lB I.hok e;have hn:mA m=none:=RelO.none_of (by rw [<-l];exact r m);exact get_meth I.kIn O (c.get m) k.at_ k.fn hn h
theorem rm {y:V} {u:Value} {Q:Unit->Shared->Prop} (I:Inv X pins σ H s) (e:H a=some (.ins C dx fs)) (c:Cls X.K C) (n:NoAttr X.K C f) (hl:fs.length<1000) (ry:RelV y u)
  (h:∀ s',Inv X pins σ (upd H a (.ins C dx (gV f y fs))) s'->Q () s'):wpAny (model X.prog X.w) A (setAttr (.ref a) f u) Q E s:=by
 obtain ⟨mA,O,r,wi,_,ho⟩:=lB I.hok e;have hz:(fs.map (·.1)).length<=sizeLine:=by rw [uk,sizeLine_eq];omega
 refine set_map I.kIn O c.sa c.po n.taker c.hd wi hz fun h' O' sb=>h _ ?_;have hd:∃ o,h'.get? dx=some o:=let ⟨o,_,_,e',_⟩:=O'.ns;⟨o,e'⟩;refine I.write (x:=a) (e:=dx) (by rw [e];exact True.intro) (.inr ho) (fun b q hb z=>(sb.2 b hb).trans z) hd ?_;refine ⟨by rw [aD O.ne];exact ho,?_,O.ne,O'.obj,_,O'.ns,fun g=>?_,fun g hg=>?_⟩
 ·have:=kD f y fs;omega
 ·show RelO ((gV f y fs).lookup g) (if g=f then some u else mA g);rw [kC];by_cases q:g=f
  ·rw [if_pos q,if_pos q];exact ry
  ·rw [if_neg q,if_neg q];exact r g
 ·by_cases q:g=f
  ·rw [q];exact (j7 f y fs).1
  ·refine (j7 f y fs).2 g (wi g fun z=>hg ?_);show (if g=f then some u else mA g)=none;rw [if_neg q];exact z
theorem Inv.made (I:Inv X pins σ H s):Inv X pins σ (upd (upd H s.heap.objs.size (.own (s.heap.objs.size+1))) (s.heap.objs.size+1) (.ins C s.heap.objs.size []))
  { s with heap:=(s.heap.push emptyDict).push (instObj C s.heap.objs.size) }:=by
 have e1:(s.heap.push emptyDict).get? s.heap.objs.size=some emptyDict:=Heap.get?_push_size s.heap rfl;have e2:((s.heap.push emptyDict).push (instObj C s.heap.objs.size)).get? (s.heap.objs.size+1)=some (instObj C s.heap.objs.size):=by
  have:=Heap.get?_push_size (s.heap.push emptyDict) (o:=instObj C s.heap.objs.size) rfl;rwa [Heap.size_push] at this
 have e3:(s.heap.push emptyDict).Ns s.heap.objs.size (fun _=>none):=⟨emptyDict,#[],_,e1,rfl,(fun e he=>absurd he (by simp)),fun _=>rfl⟩;have I1:=I.laid (a:=s.heap.objs.size) (o:=.own (s.heap.objs.size+1)) (h':=s.heap.push emptyDict) (t':=s.toks) (fun b u q=>Heap.get?_push_of_some _ q) (Nat.le_refl _) ⟨_,e1⟩;refine I1.laid (a:=s.heap.objs.size+1) (o:=.ins C s.heap.objs.size []) (t':=s.toks) (fun b u q=>Heap.get?_push_of_some _ q) (Nat.le_of_eq (Heap.size_push _ _)) ?_;have ne:s.heap.objs.size≠s.heap.objs.size+1:=Nat.ne_of_lt (Nat.lt_succ_self _);refine ⟨by rw [aD ne,aB],Nat.zero_le _,ne,e2,fun _=>none,(Heap.Ns1.of_empty e3).at fun o q=>Heap.get?_push_of_some _ q,fun _=>True.intro,fun y hy=>absurd rfl hy⟩
theorem attr_of {prog:Program} {w:World} {env:Env} {e:Expr} {f:Str} {pos:Pos} {s:Shared} {Q:Value->Shared->Prop} (hb:attributeBase e f env (eval e env)=eval e env)
  (h:wpAny (model prog w) A (eval e env) (fun o s₁=>wpAny (model prog w) A (getAttr o f true) Q E s₁) E s):wpAny (model prog w) A (eval (.Attribute e f pos) env) Q E s:=
 Attribute_any_ h (by rw [arm_eval_Attribute,hb])
end
noncomputable def tFld (K:Frag) (ta:TE) (f:Str):TE:=fun σ H Q=>ta σ H fun x H1=>∃ a C dx fs v,x=.ref a/\H1 a=some (.ins C dx fs)/\Cls K C/\NoAttr K C f/\fs.lookup f=some v/\Q v H1
noncomputable def sFld (K:Frag) (ta tv:TE) (f:Str):TS:=fun D σ H=>tv σ H fun y H1=>ta σ H1 fun x H2=>∃ a C dx fs,x=.ref a/\H2 a=some (.ins C dx fs)/\Cls K C/\NoAttr K C f/\fs.length<1000/\
 D.nx σ (upd H2 a (.ins C dx (gV f y fs)))
section
variable {X:Cx} {o e value:Expr} {f:Str} {pos pos' tpos:Pos} {ta tv:TE}
theorem pe_fld (he:PE X e ta) (hb:attributeBase e f X.env (eval e X.env)=eval e X.env):PE X (.Attribute e f pos) (tFld X.K ta f):=by
 intro pins s σ H Q I h;refine attr_of hb (thn (he pins s σ H _ I h) fun u s1 ⟨x,H1,I1,rx,a,C,dx,fs,v,ex,ea,c,n,l,q⟩=>?_);subst ex;obtain rfl:u=Value.ref a:=rx;exact rl I1 ea c n l fun u' s2 I2 ru=>⟨v,H1,I2,ru,q⟩
theorem ps_fld (ha:PE X o ta) (hv:PE X value tv) (hs:swapsWith value (some (.Attribute o f pos')) pos.line X.env=pure false):PS X (.Assign [.Attribute o f pos'] value pos) (sFld X.K ta tv f):=by
 intro pins s σ H D I h;refine plainObj_wpAny_Assign_Attribute (thn (hv pins s σ H _ I h) fun u s1 ⟨y,H1,I1,ry,q⟩=>thn (ha pins s1 σ H1 _ I1 q) fun ov s2 ⟨x,H2,I2,rx,a,C,dx,fs,ex,ea,c,n,l,q2⟩=>?_) hs;subst ex;obtain rfl:ov=Value.ref a:=rx;exact rm I2 ea c n l ry fun s3 I3=>⟨σ,_,I3,q2⟩
theorem methcall_of {pl:Sem Bool} {m:Str} {apos:Pos} {args:List Expr} {pins:List (Addr×Obj)} {s:Shared} {σ:St} {H:Hp} {Q:Value->Shared->Prop} {te:TE} (he:PE X e te) (I:Inv X pins σ H s)
  (h:te σ H fun x H1=>∃ a C dx fs g,x=.ref a/\H1 a=some (.ins C dx fs)/\Cls X.K C/\Meth X.K C m g/\fs.lookup m=none/\
   ∀ s1,Inv X pins σ H1 s1->wpAny (model X.prog X.w) X.A (callWith pos (.ref g) [.ref a] (backTo pos (starEach args X.env)) (backToKw pos (keywordEach [] X.env))) Q X.xe s1)
  (ht:eval (.Call (.Attribute e m apos) args [] pos) X.env=(do
   let ov <-eval e X.env
   standAt apos.atName
   let (f,first) <-holding [ov] (getMethod ov m pl)
   callWith pos f first (backTo pos (starEach args X.env)) (backToKw pos (keywordEach [] X.env)))) :
  wpAny (model X.prog X.w) X.A (eval (.Call (.Attribute e m apos) args [] pos) X.env) Q X.xe s:=by
 refine methodCall_KW (pl:=pl) (thn (he pins s σ H _ I h) fun u s1 ⟨x,H1,I1,rx,a,C,dx,fs,g,ex,ea,c,k,l,q⟩=>?_) ht;subst ex;obtain rfl:u=Value.ref a:=rx;exact iZ I1 ea c k l (q s1 I1)
end
section
variable {X:Cx} {pins:List (Addr×Obj)} {σ:St} {H:Hp} {s:Shared} {A:Around} {E:Value->Shared->Prop} {Q:Value->Shared->Prop} {c:Value} {b:Bool}
inductive jq (K:Frag) (H:Hp):V->Value->Prop where
 | non:jq K H .non (.type "NoneType")
 | bl (x:Bool):jq K H (.bl x) (.type "bool")
 | int (i:Int):jq K H (.int i) (.type "int")
 | str (x:Str):jq K H (.str x) (.type "str")
 | flt (x:UInt64):jq K H (.flt x) (.type "float")
 | lst {a:Addr} {xs:List V} (e:H a=some (.lst xs)):jq K H (.ref a) (.type "list")
 | frz {a:Addr} {o:Obj} {xs:List V} (e:H a=some (.frz o (.lst xs))):jq K H (.ref a) (.type "list")
 | tup {a:Addr} {xs:List V} (e:H a=some (.tup xs)):jq K H (.ref a) (.type "tuple")
 | dK {a:Addr} {kvs:List (Key×V)} (e:H a=some (.dK kvs)):jq K H (.ref a) (.type "dict")
 | dT {a:Addr} {kvs:List (List Key×V)} (e:H a=some (.dT kvs)):jq K H (.ref a) (.type "dict")
 | ins {a C dx:Addr} {fs:List (Str×V)} (e:H a=some (.ins C dx fs)) (cl:Cls K C) (ha:findIn K (.ref C) "__class__" = some (some (.builtin "object.__class__")))
  (hn:specialIn K (.builtin "object.__class__") "__get__" = some (some (.builtin "getset_descriptor.__get__"))) (htk:takesIn K (.builtin "object.__class__")=some true)
  (hm:mroIn K C (.type "object")=some true):jq K H (.ref a) (.ref C)
theorem isinst_ok {x:V} {u t:Value} (I:Inv X pins σ H s) (rx:RelV x u) (ty:jq X.K H x t) (e:kitOne X.K t c=some b) (h:∀ tk,Q (.bool b) { s with toks:=tk }) :
  wpAny (model X.prog X.w) A (call (.builtin "isinstance") [u,c]) Q E s:=by
 cases ty with
 | non=>cases (show u=Value.none from rx);exact kia_one PySem.W.kitx_none I.kIn True.intro e (fun z=>nomatch z) h
 | bl y=>cases (show u=Value.bool y from rx);exact kia_one PySem.W.kitx_bool I.kIn True.intro e (fun z=>nomatch z) h
 | int i=>obtain ⟨t,q⟩:=(show ∃ t,u=Value.int i t from rx);cases q;exact kia_one PySem.W.kitx_int I.kIn True.intro e (fun z=>nomatch z) h
 | str y=>obtain ⟨t,q⟩:=(show ∃ t,u=Value.str y t from rx);cases q;exact kia_one PySem.W.kitx_str I.kIn True.intro e (fun z=>nomatch z) h
 | flt y=>obtain ⟨t,q⟩:=(show ∃ t,u=Value.float y t from rx);cases q;exact kia_one PySem.W.kitx_float I.kIn True.intro e (fun z=>nomatch z) h
 | @lst a xs ea=>
  cases (show u=Value.ref a from rx);obtain ⟨_,_,n,_,h1⟩:=(show cN X.prog X.w H s.heap a (.lst xs) from I.hok a _ ea);exact kia_one kitx_list I.kIn ⟨_,h1,rfl⟩ e (fun z=>nomatch z) h
 | @frz a ob xs ea=>
  cases (show u=Value.ref a from rx);obtain ⟨_,_,_,n,_,h1⟩:=(show cN X.prog X.w H s.heap a (.frz ob (.lst xs)) from I.hok a _ ea);exact kia_one kitx_list I.kIn ⟨_,h1,rfl⟩ e (fun z=>nomatch z) h
 | @tup a xs ea=>
  cases (show u=Value.ref a from rx);obtain ⟨_,_,_,p⟩:=(show cN X.prog X.w H s.heap a (.tup xs) from I.hok a _ ea);obtain ⟨o,h1,h2,_⟩:=p;exact kia_one PySem.W.kitx_tuple I.kIn ⟨o,h1,h2⟩ e (fun z=>nomatch z) h
 | @dK a kvs ea=>
  cases (show u=Value.ref a from rx);obtain ⟨_,_,vs,_,p⟩:=(show cN X.prog X.w H s.heap a (.dK kvs) from I.hok a _ ea);obtain ⟨o,es,ep,h1,h2,_⟩:=p;exact kia_one kitx_dict I.kIn ⟨o,h1,h2.1⟩ e (fun z=>nomatch z) h
 | @dT a kvs ea=>
  cases (show u=Value.ref a from rx);obtain ⟨_,_,xs,_,o,es,ep,h1,h2,_⟩:=(show cN X.prog X.w H s.heap a (.dT kvs) from I.hok a _ ea);exact kia_one kitx_dict I.kIn ⟨o,h1,h2.1⟩ e (fun z=>nomatch z) h
 | @ins a C dx fs ea cl ha hn htk hm=>
  cases (show u=Value.ref a from rx);obtain ⟨mA,O,_⟩:=lB I.hok ea;obtain ⟨od,J,_⟩:=O.look;exact kia_one (PySem.W.kitx_own (cl.get _) cl.hd ha hn htk hm) I.kIn J e (fun z=>nomatch z) h
end
structure bG (k:Nat) (A:Around):Prop where
 hd:A.handled=none
 dp:A.depth+3*k+5<recursionLimit
 un:A.units+16*k+200<cLine
theorem bG.mono {j k:Nat} {A:Around} (r:bG k A) (h:j<=k):bG j A:=⟨r.hd,by have:=r.dp;omega,by have:=r.un;omega⟩
theorem bG.deeper {k:Nat} {A:Around} (r:bG (k+1) A) (env:Env):bG k (A.deeper env):=
 ⟨r.hd,by have:=r.dp;show A.depth+1+3*k+5<_;omega,by have:=r.un;show A.units+3+16*k+200<_;omega⟩
theorem rp {A:Around} {C:Addr} {us:List Value} {kw:List (Str×Value)}:(A.under (.builtin "type.__call__" ⟨.ref C::us,kw⟩)).depth=A.depth+1:=by
 first | rfl | simp [Around.under,Code.weight,Code.isCreation,Code.isGuard,Code.isCaller,Code.frames,Code.isFrame,guardIds]
theorem rq {A:Around} {C:Addr} {us:List Value} {kw:List (Str×Value)}:(A.under (.builtin "type.__call__" ⟨.ref C::us,kw⟩)).units=A.units+1:=by
 first | rfl | simp [Around.under,Code.cUnits,Code.frames,Code.isFrame]
theorem bG.make {k:Nat} {A:Around} (r:bG (k+1) A) (C:Addr) (us:List Value) (kw:List (Str×Value)):bG k (A.under (.builtin "type.__call__" ⟨.ref C::us,kw⟩)):=
 ⟨r.hd,by have:=r.dp;rw [rp];omega,by have:=r.un;rw [rq];omega⟩
theorem bG.depth {k:Nat} {A:Around} (r:bG k A):A.depth<recursionLimit:=by have:=r.dp;omega
noncomputable def tNil:TA:=fun _ H Q=>Q [] H
noncomputable def tCons (ta:TE) (tr:TA):TA:=fun σ H Q=>ta σ H fun x H1=>tr σ H1 fun xs H2=>Q (x::xs) H2
section
variable {X:Cx} {e:Expr} {es:List Expr} {te:TE} {t:TA} {pos:Pos}
theorem cX:PA X [] tNil:=fun _ _ _ _ H Q I h=>Calls.spliced_nil ⟨[],H,I,.nil,h⟩
theorem bM (ha:PE X e te) (hr:PA X es t) (hs:starEach (e::es) X.env=(false,eval e X.env)::starEach es X.env:=by rfl):PA X (e::es) (tCons te t):=by
 intro pos pins s σ H Q I h;rw [hs];show wpAny _ _ (spliced ((false,eval e X.env)::backTo pos (starEach es X.env))) _ _ s;refine Calls.spliced_cons (thn (ha pins s σ H _ I h) fun u s1 ⟨x,H1,I1,r1,q1⟩=>?_);exact thn (hr pos pins s1 σ H1 _ I1 q1) fun us s2 ⟨xs,H2,I2,r2,q2⟩=>⟨x::xs,H2,I2,.cons r1 r2,q2⟩
noncomputable def tTup (t:TA):TE:=fun σ H Q=>t σ H fun xs H1=>xs.length<=sizeLine/\∀ p,H1 p=none->Q (.ref p) (upd H1 p (.tup xs))
noncomputable def tLst (t:TA):TE:=fun σ H Q=>t σ H fun xs H1=>xs.length<=sizeLine/\∀ p,H1 p=none->Q (.ref p) (upd H1 p (.lst xs))
theorem pe_tup {x1} (h:PA X es t):PE X (.Tuple es x1 pos) (tTup t):=by
 intro pins s σ H Q I hq;refine wpAny_Tuple_spliced (thn (h pos pins s σ H _ I hq) fun us s1 ⟨xs,H1,I1,r,z,q⟩=>⟨by rw [<-r.length];exact z,?_⟩);have hf:H1 s1.heap.objs.size=none:=I1.hok.fresh (Nat.le_refl _);refine ⟨.ref s1.heap.objs.size,upd H1 s1.heap.objs.size (.tup xs),I1.laid (t':=s1.toks) (fun b u e=>Heap.get?_push_of_some _ e) (Nat.le_refl _) ?_,rfl,q _ hf⟩;exact ⟨z,us,r,⟨_,Heap.get?_push_size _ rfl,rfl,_,rfl⟩⟩
theorem pe_lst (h:PA X es t):PE X (.List es pos) (tLst t):=by
 intro pins s σ H Q I hq;refine wpAny_List_spliced (thn (h pos pins s σ H _ I hq) fun us s1 ⟨xs,H1,I1,r,z,q⟩=>⟨by rw [<-r.length];exact z,?_⟩);have hf:H1 s1.heap.objs.size=none:=I1.hok.fresh (Nat.le_refl _);refine ⟨.ref s1.heap.objs.size,upd H1 s1.heap.objs.size (.lst xs),I1.laid (t':=s1.toks) (fun b u e=>Heap.get?_push_of_some _ e) (Nat.le_refl _) ?_,rfl,q _ hf⟩;exact ⟨z,us,0,r,Heap.get?_push_size _ rfl⟩
end
abbrev Sp:=List V->Hp->VK->XK->Prop
abbrev CXT:=List Env->Hp->Shared->XK->Value->Shared->Prop
structure Env0 (P:Program) (w:World) (K:Frag) (mg:Str->Option Value) (base:Heap) (A:Around) (outer:List Env) (s:Shared) (H:Hp):Prop where
 frames:A.frames=some outer
 mod:Mod K mg base
 bs:∀ b o,base.get? b=some o->s.heap.get? b=some o/\H b=none
 bsz:base.objs.size<=s.heap.objs.size
 funs:s.heap.FunFrames base outer
 frf:∀ b∈frs outer,H b=none
 hok:HOk P w H s.heap
 bare:AllBare s.gens
noncomputable def CE (outer:List Env) (P:Program) (w:World) (H:Hp) (s:Shared) (Q:VK) (u:Value) (s':Shared):Prop:=
 ∃ v H',s'.os=s.os/\AllBare s'.gens/\Un (frs outer) [] H H' s.heap s'.heap/\HOk P w H' s'.heap/\RelV v u/\Q v H'
noncomputable def CR (CX:CXT) (outer:List Env) (P:Program) (w:World) (H:Hp) (s:Shared) (Q:VK) (E:XK) (r:Result) (s':Shared):Prop:=
 match r with
 | .ok (.ret u)=>CE outer P w H s Q u s'
 | .ok _=>False
 | .error e=>CX outer H s E e s'
structure eM (P:Program) (w:World) (K:Frag) (mg:Str->Option Value) (base:Heap) (CX:CXT) (k:Nat) (f:Addr) (fd:FuncData) (ps:List Str) (sp:Sp):Prop where
 len:∀ vs H Q E,sp vs H Q E->vs.length=ps.length
 run:∀ (A:Around) (outer:List Env) (s:Shared) (H:Hp) (args:Args) (us:List Value) (vs:List V) (Q:VK) (E:XK),bG k A->Env0 P w K mg base A outer s H->BindsTo s fd args (ps.zip us)->aQ vs us->sp vs H Q E->
  codeAny (model P w) A (.call (.ref f) args) (CR CX outer P w H s Q E) s
theorem eM.imp {P:Program} {w:World} {K:Frag} {mg:Str->Option Value} {base:Heap} {CX:CXT} {k:Nat} {f:Addr} {fd:FuncData} {ps:List Str} {sp sp':Sp} (F:eM P w K mg base CX k f fd ps sp)
  (h:∀ vs H Q E,sp' vs H Q E->sp vs H Q E):eM P w K mg base CX k f fd ps sp':=
 ⟨fun vs H Q E q=>F.len vs H Q E (h _ _ _ _ q),fun A outer s H args us vs Q E hr he hb hv hs=>F.run A outer s H args us vs Q E hr he hb hv (h _ _ _ _ hs)⟩
theorem Env0.make {P:Program} {w:World} {K:Frag} {mg:Str->Option Value} {base:Heap} {A:Around} {outer:List Env} {s:Shared} {H:Hp} (e:Env0 P w K mg base A outer s H) (C:Addr) (us:List Value) (kw:List (Str×Value)) :
 Env0 P w K mg base (A.under (.builtin "type.__call__" ⟨.ref C::us,kw⟩)) outer s H:=⟨by first | exact e.frames | (simpa [Around.under,Code.envs,Code.isFrame,pushEnvs] using e.frames),e.mod,e.bs,e.bsz,e.funs,e.frf,e.hok,e.bare⟩
section
variable {X:Cx} {pins:List (Addr×Obj)} {σ:St} {H:Hp} {s s':Shared}
theorem Inv.env0 (I:Inv X pins σ H s):Env0 X.prog X.w X.K X.mg X.base X.A X.stack s H:=
 ⟨I.ok.frames,I.ok.mod,I.bs,Nat.le_trans I.ok.bsz I.sz,I.stack,I.stkFree,I.hok,I.bare⟩
theorem Inv.after {Q:VK} {u:Value} (I:Inv X pins σ H s) (h:CE X.stack X.prog X.w H s Q u s'):EP X pins σ Q u s':=by
 obtain ⟨v,H',os,bare,un,hok,r,q⟩:=h;obtain ⟨hh,g,d,t,os'⟩:=s';obtain rfl:os'=s.os:=os;exact ⟨v,H',I.call (h':=hh) (g':=g) (d':=d) (t':=t) (ch:=[]) un hok bare (fun b z=>absurd z (by simp)),r,q⟩
end
noncomputable def tCall (sp:Sp) (dvs:List V) (E:XK) (t:TA):TE:=fun σ H Q=>t σ H fun vs H1=>sp (vs++dvs) H1 Q E
noncomputable def lV (C:Addr) (m:Str) (sp:Sp) (dvs:List V) (E:XK) (ta:TE) (t:TA):TE:=fun σ H Q=>ta σ H fun x H1=>∃ a dx fs,x=.ref a/\H1 a=some (.ins C dx fs)/\fs.lookup m=none/\
 t σ H1 fun vs H2=>sp (x::(vs++dvs)) H2 Q E
noncomputable def tMake (C:Addr) (sp:Sp) (dvs:List V) (E:XK) (t:TA):TE:=fun σ H Q=>t σ H fun vs H1=>∀ x dx,H1 x=none->H1 dx=none->dx≠x->
 sp (.ref x::(vs++dvs)) (upd (upd H1 dx (.own x)) x (.ins C dx [])) (fun v H2=>v=.non/\Q (.ref x) H2) E
noncomputable def Binds (K:Frag) (fd:FuncData) (ps:List Str) (ds:List Value):Prop:=
 ∀ (s:Shared) (us:List Value),K.In s.heap->(us++ds).length=ps.length->BindsTo s fd ⟨us,[]⟩ (ps.zip (us++ds))
theorem Binds.all {K:Frag} {fd:FuncData} {ps:List Str} (h:∀ us:List Value,us.length=ps.length->bindArgs fd ⟨us,[]⟩=pure (ps.zip us)):Binds K fd ps []:=fun s us _ hl=>by
 rw [List.append_nil] at hl ⊢;exact .of_eq (h us hl)
noncomputable def i7 (CX:CXT) (X:Cx) (E:XK):Prop:=∀ (pins:List (Addr×Obj)) (σ:St) (H:Hp) (s:Shared) (e:Value) (s':Shared),Inv X pins σ H s->CX X.stack H s E e s'->X.xe e s'
section
variable {X:Cx} {CX:CXT} {k:Nat} {f C:Addr} {fd:FuncData} {ps:List Str} {sp:Sp} {dvs:List V} {ds:List Value} {E:XK} {x m:Str} {p pos apos:Pos} {e o:Expr} {es:List Expr} {ta:TE} {t:TA}
theorem run_fn {pins:List (Addr×Obj)} {σ:St} {H:Hp} {s:Shared} {Q:VK} {us:List Value} {vs:List V} (F:eM X.prog X.w X.K X.mg X.base CX k f fd ps sp) (hr:bG k X.A) (hb:Binds X.K fd ps ds) (hd:aQ dvs ds) (hx:i7 CX X E)
  (I:Inv X pins σ H s) (r:aQ vs us) (h:sp (vs++dvs) H Q E):wpAny (model X.prog X.w) X.A (call (.ref f) us) (EP X pins σ Q) X.xe s:=by
 have r2:aQ (vs++dvs) (us++ds):=r.append hd;have hl:(us++ds).length=ps.length:=by rw [<-r2.length];exact F.len _ _ _ _ h
 refine wpAny_call (codeAny_mono (F.run X.A X.stack s H ⟨us,[]⟩ (us++ds) (vs++dvs) Q E hr I.env0 (hb s us I.kIn hl) r2 h) fun r s' hq=>?_);cases r with
 | error e=>exact hx pins σ H s e s' I hq
 | ok fl=>
  cases fl with
  | ret u=>exact I.after hq
  | next=>exact False.elim hq
  | brk=>exact False.elim hq
  | cont=>exact False.elim hq
theorem oP (F:eM X.prog X.w X.K X.mg X.base CX k f fd ps sp) (hr:bG k X.A) (hg:Gl X x) (hm:X.mg x=some (.ref f)) (hk:keepIn X.K (.ref f)=true) (hb:Binds X.K fd ps ds) (hd:aQ dvs ds) (hx:i7 CX X E)
  (ha:PA X (e::es) t) (vp:(x==("__debug__" : Str))=false:=by decide) (he:starEach (e::es) X.env=(false,eval e X.env)::starEach es X.env:=by rfl) (hpl:(backTo pos (starEach es X.env)).any (·.1)=false:=by rfl) :
  PE X (.Call (.Name x p) (e::es) [] pos) (tCall sp dvs E t):=by
 intro pins s σ H Q I h;refine wpAny_Call_Name_kw (oM I hg hm ?_ vp);refine callWith_K (h₀:=X.base) I.ok.mod.kin hk (thn (ha pos pins s σ H _ I h) fun us s1 ⟨vs,H1,I1,r,q⟩=>⟨I1.kIn,?_⟩) he hpl;exact run_fn F hr hb hd hx I1 r q
theorem pe_meth {pl:Sem Bool} (he:PE X o ta) (c:Cls X.K C) (hm:Meth X.K C m f) (F:eM X.prog X.w X.K X.mg X.base CX k f fd ps sp) (hr:bG k X.A) (hb:Binds X.K fd ps ds) (hd:aQ dvs ds) (hx:i7 CX X E) (ha:PA X (e::es) t)
  (hst:starEach (e::es) X.env=(false,eval e X.env)::starEach es X.env:=by rfl) (hpl:(backTo pos (starEach es X.env)).any (·.1)=false:=by rfl)
  (ht:eval (.Call (.Attribute o m apos) (e::es) [] pos) X.env=(do
   let ov <-eval o X.env
   standAt apos.atName
   let (f,first) <-holding [ov] (getMethod ov m pl)
   callWith pos f first (backTo pos (starEach (e::es) X.env)) (backToKw pos (keywordEach [] X.env))):=by rfl) :
  PE X (.Call (.Attribute o m apos) (e::es) [] pos) (lV C m sp dvs E ta t):=by
 intro pins s σ H Q I h;refine methodCall_KW (pl:=pl) (thn (he pins s σ H _ I h) fun u s1 ⟨x,H1,I1,rx,a,dx,fs,ex,ea,l,q⟩=>?_) ht;subst ex;obtain rfl:u=Value.ref a:=rx;refine iZ I1 ea c hm l ?_;refine callWith_K (first:=[.ref a]) (h₀:=X.base) I.ok.mod.kin hm.kp (thn (ha pos pins s1 σ H1 _ I1 q) fun us s2 ⟨vs,H2,I2,r,q2⟩=>⟨I2.kIn,?_⟩) hst hpl;exact run_fn (us:=.ref a::us) (vs:=.ref a::vs) F hr hb hd hx I2 (.cons rfl r) q2
theorem p9 {pl:Sem Bool} (he:PE X o ta) (c:Cls X.K C) (hm:Meth X.K C m f) (F:eM X.prog X.w X.K X.mg X.base CX k f fd ps sp) (hr:bG k X.A) (hb:Binds X.K fd ps ds) (hd:aQ dvs ds) (hx:i7 CX X E)
  (ht:eval (.Call (.Attribute o m apos) [] [] pos) X.env=(do
   let ov <-eval o X.env
   standAt apos.atName
   let (f,first) <-holding [ov] (getMethod ov m pl)
   callWith pos f first (backTo pos (starEach [] X.env)) (backToKw pos (keywordEach [] X.env))):=by rfl) :
  PE X (.Call (.Attribute o m apos) [] [] pos) (lV C m sp dvs E ta tNil):=by
 intro pins s σ H Q I h;refine methodCall_KW (pl:=pl) (thn (he pins s σ H _ I h) fun u s1 ⟨x,H1,I1,rx,a,dx,fs,ex,ea,l,q⟩=>?_) ht;subst ex;obtain rfl:u=Value.ref a:=rx;refine iZ I1 ea c hm l ?_;exact PySem.W.callWith_K0 (first:=[.ref a]) I1.kIn hm.kp (run_fn (us:=[.ref a]) (vs:=[.ref a]) F hr hb hd hx I1 (.cons rfl .nil) q)
structure Mk (K:Frag) (C f:Addr):Prop where
 makes:makesIn K C=true
 init:findIn K (.ref C) "__init__" = some (some (.ref f))
 fn:isFn K (.ref f)=true
 kp:keepIn K (.ref C)=true
theorem run_make {pins:List (Addr×Obj)} {σ:St} {H:Hp} {s:Shared} {Q:VK} {us:List Value} {vs:List V} (M:Mk X.K C f) (F:eM X.prog X.w X.K X.mg X.base CX k f fd ps sp) (hr:bG (k+1) X.A) (hb:Binds X.K fd ps ds) (hd:aQ dvs ds)
  (hx:i7 CX X E) (I:Inv X pins σ H s) (r:aQ vs us)
  (h:∀ x dx,H x=none->H dx=none->dx≠x->sp (.ref x::(vs++dvs)) (upd (upd H dx (.own x)) x (.ins C dx [])) (fun v H2=>v=.non/\Q (.ref x) H2) E) :
  wpAny (model X.prog X.w) X.A (call (.ref C) us) (EP X pins σ Q) X.xe s:=by
 have hq:=h (s.heap.objs.size+1) s.heap.objs.size (I.hok.fresh (Nat.le_succ _)) (I.hok.fresh (Nat.le_refl _)) (Nat.ne_of_lt (Nat.lt_succ_self _));have I2:=Inv.made (C:=C) I;have r2:aQ (V.ref (s.heap.objs.size+1)::(vs++dvs)) (Value.ref (s.heap.objs.size+1)::(us++ds)):=.cons rfl (r.append hd);have hl:(Value.ref (s.heap.objs.size+1)::us++ds).length=ps.length:=by
  have e:=r2.length;rw [F.len _ _ _ _ hq] at e;exact e.symm
 refine wpAny_call (make_map (f:=f) I.kIn M.makes M.init (beq_iff_eq.mp M.fn) (codeAny_mono (F.run _ X.stack _ _ ⟨Value.ref (s.heap.objs.size+1)::us,[]⟩ (Value.ref (s.heap.objs.size+1)::(us++ds)) _ _ E (hr.make C us [])
  (I2.env0.make C us []) (hb _ (Value.ref (s.heap.objs.size+1)::us) I2.kIn hl) r2 hq) fun r s' hq'=>?_))
 cases r with
 | error e=>exact hx pins σ _ _ e s' I2 hq'
 | ok fl=>
  cases fl with
  | ret u=>
   obtain ⟨v,H',I3,rv,ev,q3⟩:=I2.after hq';subst ev;exact ⟨rv,⟨V.ref (s.heap.objs.size+1),H',I3,rfl,q3⟩⟩
  | next=>exact False.elim hq'
  | brk=>exact False.elim hq'
  | cont=>exact False.elim hq'
theorem pe_make (M:Mk X.K C f) (F:eM X.prog X.w X.K X.mg X.base CX k f fd ps sp) (hr:bG (k+1) X.A) (hg:Gl X x) (hm:X.mg x=some (.ref C)) (hb:Binds X.K fd ps ds) (hd:aQ dvs ds) (hx:i7 CX X E)
  (ha:PA X (e::es) t) (vp:(x==("__debug__" : Str))=false:=by decide) (he:starEach (e::es) X.env=(false,eval e X.env)::starEach es X.env:=by rfl) (hpl:(backTo pos (starEach es X.env)).any (·.1)=false:=by rfl) :
  PE X (.Call (.Name x p) (e::es) [] pos) (tMake C sp dvs E t):=by
 intro pins s σ H Q I h;refine wpAny_Call_Name_kw (oM I hg hm ?_ vp);refine callWith_K (h₀:=X.base) I.ok.mod.kin M.kp (thn (ha pos pins s σ H _ I h) fun us s1 ⟨vs,H1,I1,r,q⟩=>⟨I1.kIn,?_⟩) he hpl;exact run_make M F hr hb hd hx I1 r q
end
structure d6 (N P:List Str) (sc:Scope):Prop where
 kind:sc.kind=.function
 co:sc.isCoroutine=false
 gen:sc.isGenerator=false
 nd:N.Nodup
 pre:N.take P.length=P
 par:∀ x∈P,sc.names.lookup x=some .local\/sc.names.lookup x=some .cell
 nofree:∀ y∈sc.names,y.2≠.free
theorem nU {kindOf:Str->Option NameKind} {x:Str}:∀ {binds:List (Str×Value)} {m:Str->Option Value},(∀ v,(x,v)∉binds)->bindL kindOf binds m x=m x
  | [],_,_=>rfl
  | (n,v)::r,m,h=>by
    unfold bindL;rw [nU fun w hw=>h w (uf _ hw)];split
    . have:x≠n:=by rintro rfl;exact h v List.mem_cons_self
      simp [this]
    . rfl
theorem nV {kindOf:Str->Option NameKind} {x:Str}:∀ {binds:List (Str×Value)} {m:Str->Option Value},(∀ v,(x,v)∉binds)->bindC kindOf binds m x=m x
  | [],_,_=>rfl
  | (n,v)::r,m,h=>by
    unfold bindC;rw [nV fun w hw=>h w (uf _ hw)];split
    . rfl
    . have:x≠n:=by rintro rfl;exact h v List.mem_cons_self
      simp [this]
theorem nW {kindOf:Str->Option NameKind} {x:Str} {v:Value}:∀ {P:List Str} {vs:List Value} {i:Nat} {m:Str->Option Value},P.Nodup->P[i]?=some x->vs[i]?=some v->kindOf x=some .local->
  bindL kindOf (P.zip vs) m x=some v
 | [],_,_,_,_,h,_,_=>by simp at h
 | _::_,[],_,_,_,_,h,_=>by simp at h
 | p::P,w::vs,0,m,nd,h1,h2,hk=>by
  simp at h1 h2;subst h1;subst h2;show bindL kindOf ((p,w)::P.zip vs) m p=_;unfold bindL;rw [nU fun v hv=>(List.nodup_cons.mp nd).1 (List.of_mem_zip hv).1,if_pos hk];simp
 | p::P,w::vs,i+1,m,nd,h1,h2,hk=>by
  show bindL kindOf ((p,w)::P.zip vs) m x=_;unfold bindL;exact nW (i:=i) (List.nodup_cons.mp nd).2 (by simpa using h1) (by simpa using h2) hk
theorem nX {kindOf:Str->Option NameKind} {x:Str} {v:Value}:∀ {P:List Str} {vs:List Value} {i:Nat} {m:Str->Option Value},P.Nodup->P[i]?=some x->vs[i]?=some v->kindOf x≠some .local->
  bindC kindOf (P.zip vs) m x=some v
 | [],_,_,_,_,h,_,_=>by simp at h
 | _::_,[],_,_,_,_,h,_=>by simp at h
 | p::P,w::vs,0,m,nd,h1,h2,hk=>by
  simp at h1 h2;subst h1;subst h2;show bindC kindOf ((p,w)::P.zip vs) m p=_;unfold bindC;rw [nV fun v hv=>(List.nodup_cons.mp nd).1 (List.of_mem_zip hv).1,if_neg hk];simp
 | p::P,w::vs,i+1,m,nd,h1,h2,hk=>by
  show bindC kindOf ((p,w)::P.zip vs) m x=_;unfold bindC;exact nX (i:=i) (List.nodup_cons.mp nd).2 (by simpa using h1) (by simpa using h2) hk
noncomputable def start (N:List Str) (vs:List V):St:=vs.map some++List.replicate (N.length-vs.length) none
noncomputable def j8 (CX:CXT) (P:Program) (w:World) (K:Frag) (mg:Str->Option Value) (base:Heap) (N:List Str) (qual:Str) (scope:Scope) (f:Addr) (cd:Value) (A:Around) (outer:List Env) (s:Shared) (H:Hp) (E:XK):Cx where
 prog:=P
 w:=w
 K:=K
 mg:=mg
 base:=base
 A:=A.deeper (envOfC qual scope s.heap.objs.size f cd)
 N:=N
 s₀:=s
 H₀:=H
 env:=envOfC qual scope s.heap.objs.size f cd
 outer:=outer
 stack:=envOfC qual scope s.heap.objs.size f cd::outer
 ex:=[]
 calm:=true
 fn:=fun _=>true
 pn:=[]
 xe:=fun e s'=>wpAny (model P w) (A.deeper (envOfC qual scope s.heap.objs.size f cd)) (leaving (envOfC qual scope s.heap.objs.size f cd) e) (fun _ s''=>CX outer H s E e s'') (fun e' s''=>CX outer H s E e' s'') s'
theorem qa {sc:Scope} {n:Nat} {x:Str} (h:sc.names.lookup x=some .cell):∃ c,(cellsFrom n sc.names []).lookup x=some c:=by
 have q:=cellsFrom_some sc.names n [] (.inl h);exact Option.isSome_iff_exists.mp q
theorem inv_start {CX:CXT} {P:Program} {w:World} {K:Frag} {mg:Str->Option Value} {base:Heap} {N ps:List Str} {qual:Str} {scope:Scope} {f:Addr} {cd:Value} {A:Around} {outer:List Env} {s s1:Shared} {H:Hp} {E:XK} {us:List Value} {vs:List V}
  (S:d6 N ps scope) (hd:A.handled=none) (e0:Env0 P w K mg base A outer s H) (hl:vs.length=ps.length) (r:aQ vs us)
  (x:InCallC s s.heap.objs.size (bindL (envOfC qual scope s.heap.objs.size f cd).kindOf (ps.zip us) fun _=>none) (cellsFrom (s.heap.objs.size+1) scope.names []) (bindC (envOfC qual scope s.heap.objs.size f cd).kindOf (ps.zip us) fun _=>none) s1) :
  Inv (j8 CX P w K mg base N qual scope f cd A outer s H E) [] (start N vs) H s1:=by
 have hpl:ps.length<=N.length:=by have:=congrArg List.length S.pre;rw [List.length_take] at this;omega
 obtain ⟨h1,tk,rfl,hk⟩:=x.done;have noA:∀ b:Addr,b∉(j8 CX P w K mg base N qual scope f cd A outer s H E).ex:=fun b z=>absurd (show b∈([]:List Addr) from z) (by simp);refine ⟨⟨e0.mod,S.kind,rfl,rfl,Nat.le_refl _,fun y z c h1 h2=>?_,fun y hy=>?_,fun y c _ h=>?_,fun _=>hd,Around.frames_deeper e0.frames,.inr ⟨rfl,rfl⟩,fun b z=>absurd z (noA b),e0.bs,e0.bsz,fun b _ _=>noA b,fun b z=>absurd z (noA b),e0.funs,e0.frf⟩,
  rfl,e0.bare,Un.kept hk,⟨_,x.toInCall.ns,fun i y v h1 h2 h3=>?_⟩,fun y c h=>⟨_,x.cell y c h⟩,e0.hok.fresh (Nat.le_refl _),fun y c h=>?_,fun p hp=>absurd (show p∈([]:List (Addr×Obj)) from hp) (by simp),e0.hok.kept hk,?_⟩
 ·exact name_of_addr x.apart (PySem.mem_of_lookup h1) (PySem.mem_of_lookup h2)
 ·have hy:scope.names.lookup y=some .cell\/scope.names.lookup y=some .free:=hy;rcases hy with hy | hy
  ·exact qa hy
  ·exact absurd rfl (S.nofree _ (PySem.mem_of_lookup hy))
 ·exact Nat.le_of_lt (x.above y c (PySem.mem_of_lookup h))
 ·have hi:i<vs.length:=by
   unfold start at h2;by_cases hi:i<vs.length
   ·exact hi
   ·rw [List.getElem?_append_right (by simpa using hi)] at h2;rw [List.getElem?_replicate] at h2;split at h2 <;> cases h2
  have ha:vs[i]?=some v:=by
   unfold start at h2;rw [List.getElem?_append_left (by simpa using hi),List.getElem?_map] at h2;cases e:vs[i]? with
   | none=>rw [e] at h2;cases h2
   | some a=>rw [e] at h2;cases h2;rfl
  obtain ⟨u,hu,rv⟩:=r.get ha;have hp:ps[i]?=some y:=by
   rw [<-S.pre,List.getElem?_take_of_lt (by omega)];exact h1
  have ndP:ps.Nodup:=by rw [<-S.pre];exact S.nd.sublist (List.take_sublist _ _)
  refine ⟨u,rv,?_⟩;rcases S.par y (List.mem_of_getElem? hp) with k | k
  ·exact .inl ⟨k,nW ndP hp hu k⟩
  ·obtain ⟨c,e⟩:=qa (n:=s.heap.objs.size+1) k;refine .inr ⟨.inl k,c,e,?_⟩;have q:=x.cell y c e;rw [nX ndP hp hu (by show scope.names.lookup y≠_;rw [k];decide)] at q;exact q
 ·exact e0.hok.fresh (Nat.le_of_lt (x.above y c (PySem.mem_of_lookup h)))
 ·unfold start;show _=N.length;rw [List.length_append,uk,List.length_replicate];omega
theorem fn_of {CX:CXT} {P:Program} {w:World} {K:Frag} {mg:Str->Option Value} {base:Heap} {k:Nat} {f:Addr} {name qual:Str} {params:Arguments} {body:List Stmt} {scope:Scope} {dV kV doc pm ux ct oc:Value} {an od:Option Addr}
  {osl:Array (Option Value)} {N ps:List Str} {sp:Sp} (lk:K.lookup f=some ⟨oc,od,.func (fnOf name qual params body scope dV kV doc pm an ux ct),osl⟩) (hcd:codeIn K ux qual=true) (S:d6 N ps scope)
  (len:∀ vs H Q E,sp vs H Q E->vs.length=ps.length)
  (vf:∀ (A:Around) (outer:List Env) (s:Shared) (H:Hp) (vs:List V) (Q:VK) (E:XK),bG k (A.deeper (envOfC qual scope s.heap.objs.size f ux))->sp vs H Q E->
   ∃ t,PSs (j8 CX P w K mg base N qual scope f ux A outer s H E) body t/\t { nx:=fun _ H'=>Q .non H',rt:=Q } (start N vs) H) :
  eM P w K mg base CX (k+1) f (fnOf name qual params body scope dV kV doc pm an ux ct) ps sp:=by
 refine ⟨len,fun A outer s H args us vs Q E hr e0 hb r hsp=>?_⟩;have hl:=len _ _ _ _ hsp;have KX:K.In s.heap:=e0.mod.kin.keeps fun b o e=>(e0.bs b o e).1;have lim:s.heap.NoLimit:=e0.mod.nolimit.keeps fun b o e=>(e0.bs b o e).1;have hkind:∀ y∈ps.zip us,scope.names.lookup y.1=some .local\/(scope.names.lookup y.1=some .cell/\((cellsFrom (s.heap.objs.size+1) scope.names []).lookup y.1).isSome=true):=fun ⟨n,v⟩ hy=>by
  rcases S.par n (List.of_mem_zip hy).1 with q | q
  ·exact .inl q
  ·exact .inr ⟨q,cellsFrom_some _ _ _ (.inl q)⟩
 refine codeAny_call_function hr.depth (KX _ _ lk) rfl S.co S.gen rfl (PySem.W.codeRec_of KX hcd) (hb _ _ _ _ ?_);refine wpAny_newFunctionEnv_cells S.kind hkind fun env he s1 x=>?_;subst he;refine ⟨lim.keeps x.toInCall.keep,codeAny_func ?_⟩;obtain ⟨t,ht,hq⟩:=vf A outer s H vs Q E (hr.deeper _) hsp;have I:Inv (j8 CX P w K mg base N qual scope f ux A outer s H E) [] (start N vs) H s1:=inv_start S hr.hd e0 hl r x;refine wpAny_mono (ht [] s1 (start N vs) H _ I hq) (fun fl s' hs=>?_) fun e s' hs=>hs;have fin:∀ {σ':St} {H':Hp} {v:V} {u:Value},Inv (j8 CX P w K mg base N qual scope f ux A outer s H E) [] σ' H' s'->RelV v u->Q v H'->CE outer P w H s Q u s':=
  fun {σ' H' v u} J rv q=>⟨v,H',J.os,J.bare,J.base,J.hok,rv,q⟩
 cases fl with
 | ret u=>
  obtain ⟨v,σ',H',J,rv,q⟩:=hs;exact fin J rv q
 | next=>
  obtain ⟨σ',H',J,q⟩:=hs;exact fin (v:=V.non) (u:=Value.none) J rfl q
 | brk=>
  obtain ⟨_,_,_,q⟩:=hs;exact False.elim q
 | cont=>
  obtain ⟨_,_,_,q⟩:=hs;exact False.elim q
section
variable {X:Cx} {x:Str} {p pos:Pos} {e:Expr} {es:List Expr} {t:TA} {id T:String} {r:List V->Hp->VK->Prop}
noncomputable def tCB (r:List V->Hp->VK->Prop) (t:TA):TE:=fun σ H Q=>t σ H fun vs H1=>r vs H1 Q
theorem fV (hc:ce X (.builtin id) r) (hg:Gl X x) (hm:X.mg x=none) (hv:bootBuiltins x=some (.builtin id)) (ha:PA X (e::es) t) (hn:x≠"__name__":=by decide) (vp:(x==("__debug__" : Str))=false:=by decide)
  (he:starEach (e::es) X.env=(false,eval e X.env)::starEach es X.env:=by rfl) (hpl:(backTo pos (starEach es X.env)).any (·.1)=false:=by rfl):PE X (.Call (.Name x p) (e::es) [] pos) (tCB r t):=by
 intro pins s σ H Q I h;refine wpAny_Call_Name_kw (lQ I hg hm hv ?_ hn vp);exact PyProof.Rows.callWith_builtin1 (thn (ha pos pins s σ H _ I h) fun us s1 ⟨vs,H1,I1,r1,q1⟩=>hc pins s1 σ H1 vs us Q I1 r1 q1) he hpl
theorem fW (hc:ce X (.type T) r) (hg:Gl X x) (hm:X.mg x=none) (hv:bootBuiltins x=some (.type T)) (ha:PA X (e::es) t) (hn:x≠"__name__":=by decide) (vp:(x==("__debug__" : Str))=false:=by decide)
  (he:starEach (e::es) X.env=(false,eval e X.env)::starEach es X.env:=by rfl) (hpl:(backTo pos (starEach es X.env)).any (·.1)=false:=by rfl):PE X (.Call (.Name x p) (e::es) [] pos) (tCB r t):=by
 intro pins s σ H Q I h;refine wpAny_Call_Name_kw (lQ I hg hm hv ?_ hn vp);exact callWith_type1 (thn (ha pos pins s σ H _ I h) fun us s1 ⟨vs,H1,I1,r1,q1⟩=>hc pins s1 σ H1 vs us Q I1 r1 q1) he hpl
end
end L2
namespace HT
open PySem PyProof.Rows
section
open PySem.SeqAt
open PySem.AutoSeq1 (wpAny_loadPart')
open PySem.MeetsSeq PySem.MeetsSeq2 PySem.MeetsSeq3
end
section
variable {prog:Program} {w:World} {A:Around} {E:Value->Shared->Prop} {s:Shared}
noncomputable def sIx (n d:Nat):Option Int->Nat
 | none=>d
 | some v=>if v<0 then (v+(n:Int)).toNat else min v.toNat n
theorem sIx_le (n d:Nat) (hd:d<=n) (o:Option Int):sIx n d o<=n:=by
 cases o with
 | none=>exact hd
 | some v=>
  show (if v<0 then (v+(n:Int)).toNat else min v.toNat n)<=n;by_cases hv:v<0
  ·rw [if_pos hv];omega
  ·rw [if_neg hv];exact Nat.min_le_right _ _
theorem clip_eq (v:Int) (n d:Nat):(if v<0 then max (v+(n:Int)) 0 else min v (n:Int))=((sIx n d (some v):Nat):Int):=by
 show (if v<0 then max (v+(n:Int)) 0 else min v (n:Int))=(((if v<0 then (v+(n:Int)).toNat else min v.toNat n):Nat):Int);by_cases hv:v<0
 ·simp only [if_pos hv];omega
 ·simp only [if_neg hv];omega
theorem rz (lo hi:Option Int) (n:Nat):Builtin.Slice.sliceAdjust lo hi 1 (n:Int)=(((sIx n 0 lo:Nat):Int),((sIx n n hi:Nat):Int)):=by
 have h1:¬((1:Int)<0):=by omega
 unfold Builtin.Slice.sliceAdjust;simp only [h1,if_false];refine Prod.ext ?_ ?_
 ·cases lo with
  | none=>rfl
  | some v=>exact clip_eq v n 0
 ·cases hi with
  | none=>rfl
  | some v=>exact clip_eq v n n
theorem rA (i j:Nat):Builtin.Slice.slicePlaces (i:Int) (j:Int) 1=j-i:=by
 unfold Builtin.Slice.slicePlaces;have h1:(1:Int)>0:=by omega
 simp only [h1,if_true,Int.ediv_one];split <;> omega
theorem lW {v:Value} {o:Option Int} {Q:Option Int->Shared->Prop} (p:IsPart v o) (h:Q o s):wpAny (model prog w) A (Builtin.Slice.slicePartIndex v) Q E s:=by
 cases p with
 | none=>exact slicePart_none h
 | int i t=>exact slicePart_int h
theorem j9 {sl:Addr} {vl vu:Value} {lo hi:Option Int} {n:Nat} {Q:Int×Int×Nat->Shared->Prop} (hs:s.heap.IsSliceOf sl vl vu .none) (pl:IsPart vl lo) (pu:IsPart vu hi)
  (h:Q (((sIx n 0 lo:Nat):Int),1,sIx n n hi-sIx n 0 lo) s):wpAny (model prog w) A (Builtin.Slice.sliceApplied (.ref sl) (pure (n:Int))) Q E s:=by
 obtain ⟨os,hos,hcs,hds⟩:=id hs;unfold Builtin.Slice.sliceApplied Builtin.Slice.sliceFields;refine ub (ub (wpAny_field hos hds (x:=vl) rfl (ub (wpAny_field hos hds (x:=vu) rfl (ub (wpAny_field hos hds (x:=.none) rfl (uc ?_)))))));refine ub (slicePart_none ?_);show wpAny _ _ (if ((1:Int)==0)=true then _ else _) _ _ s;rw [if_neg (by decide)];refine ub (lW pl (ub (lW pu (ub (uc ?_)))));show wpAny _ _ (match Builtin.Slice.sliceAdjust lo hi 1 (n:Int) with | (lo,hi)=>pure (lo,(1:Int),Builtin.Slice.slicePlaces lo hi 1)) _ _ s;rw [rz lo hi n];show wpAny _ _ (pure (((sIx n 0 lo:Nat):Int),(1:Int),Builtin.Slice.slicePlaces ((sIx n 0 lo:Nat):Int) ((sIx n n hi:Nat):Int) 1)) _ _ s;rw [rA];exact uc h
theorem pick_gen (xs:Array Value) (i k:Nat):((List.range k).filterMap fun (m:Nat)=>xs[((i:Int)+(m:Int)*1).toNat]?).toArray=((xs.toList.drop i).take k).toArray:=by
 have e:(fun (m:Nat)=>xs[((i:Int)+(m:Int)*1).toNat]?)=fun m=>xs[i+m]?:=by
  funext m;have:((i:Int)+(m:Int)*1).toNat=i+m:=by omega
  rw [this]
 rw [e];have:=pick_run xs i k;rw [List.filterMap_map] at this;have e2:((fun x=>xs[x]?)∘fun x=>i+x)=fun m=>xs[i+m]?:=rfl;rw [e2] at this;rw [this]
theorem getItem_tuple_cut {t sl:Addr} {items:Array Value} {vl vu:Value} {lo hi:Option Int} {Q:Value->Shared->Prop} (ht:IsTup s.heap t items) (hs:s.heap.IsSliceOf sl vl vu .none) (pl:IsPart vl lo) (pu:IsPart vu hi)
  (hw:¬(sIx items.size 0 lo=0/\sIx items.size items.size hi=items.size))
  (h:Q (.ref s.heap.objs.size) { s with heap:=s.heap.push { cls:=.type "tuple",data:=.seq ((items.toList.drop (sIx items.size 0 lo)).take (sIx items.size items.size hi-sIx items.size 0 lo)).toArray } })
  (hsz:items.size<=sizeLine):wpAny (model prog w) A (getItem (.ref t) (.ref sl)) Q E s:=by
 have htake:sizeOk (.seq ((items.toList.drop (sIx items.size 0 lo)).take (sIx items.size items.size hi-sIx items.size 0 lo)).toArray):=by
  show ((items.toList.drop (sIx items.size 0 lo)).take (sIx items.size items.size hi-sIx items.size 0 lo)).toArray.size<=sizeLine;rw [List.size_toArray,List.length_take,List.length_drop,Array.length_toList];omega
 have hj:sIx items.size items.size hi<=items.size:=sIx_le _ _ (Nat.le_refl _) hi;obtain ⟨os,hos,hcs,hds⟩:=id hs;have hTs:s.TypeIs (.ref sl) "slice":=⟨os,hos,hcs⟩;unfold getItem
 try with_reducible refine wpAny_holding ?_
 first | refine ub (uc ?_) | skip
 refine ub (wpAny_sequenceKey ht.typeIs (by decide) ?_);refine ub (wpAny_callSpecial?_slot (name:=Str.ofString "__getitem__") ht.typeIs slot_tuple_getitem
  (wpAny_call_entry slot_tuple_getitem ht.typeIs entry_tuple_getitem ?_ (args_tuple_getitem _ _)))
 show wpAny _ _ (Builtin.Tuple.tupleItemsOf (.ref t) >>= _) _ _ s;refine ub (tupleItemsOf_ ht ?_);refine ub (wpAny_typeOf hTs ?_);rw [if_pos (by decide)];refine ub (j9 hs pl pu ?_);have hno:¬((((sIx items.size 0 lo:Nat):Int)==0&&(1:Int)==1&&(sIx items.size items.size hi-sIx items.size 0 lo)==items.size)=true):=by
  intro q;rw [um,um] at q;have q1:((sIx items.size 0 lo:Nat):Int)=0:=eq_of_beq q.1.1;have q2:sIx items.size items.size hi-sIx items.size 0 lo=items.size:=eq_of_beq q.2;exact hw ⟨by omega,by omega⟩
 show wpAny _ _ (if (((sIx items.size 0 lo:Nat):Int)==0&&(1:Int)==1&&(sIx items.size items.size hi-sIx items.size 0 lo)==items.size)=true then _ else _) _ _ s;rw [if_neg hno,pick_gen]
 first
  | exact ub (m:=Builtin.Tuple.tupleExact _) (wpAny_newObj_type (uc ⟨_,rfl,uc h⟩) htake)
  | exact ub (m:=Builtin.Tuple.tupleExact _) (wpAny_newObj_type (ub (uc (uc ⟨_,rfl,uc h⟩))) htake)
  | exact ub (ub (m:=Builtin.Tuple.tupleExact _) (wpAny_newObj_type (uc (uc ⟨_,rfl,uc h⟩)) htake))
  | exact ub (ub (m:=Builtin.Tuple.tupleExact _) (wpAny_newObj_type (uc ⟨_,rfl,uc h⟩) htake))
end
end HT
namespace L2
open PySem PySem.Spec PyProof.Rows
abbrev TO:=St->Hp->(Option Int->Hp->Prop)->Prop
noncomputable def PO (X:Cx) (e:Option Expr) (t:TO):Prop:=
 ∀ (pins:List (Addr×Obj)) (s:Shared) (σ:St) (H:Hp) (Q:Option Int->Hp->Prop),Inv X pins σ H s->t σ H Q->
  wpAny (model X.prog X.w) X.A (evalPart e X.env) (fun u s'=>∃ o H',Inv X pins σ H' s'/\IsPart u o/\Q o H') X.xe s
noncomputable def tNoPart:TO:=fun _ H Q=>Q none H
noncomputable def tPart (t:TE):TO:=fun σ H Q=>t σ H fun x H1=>∃ i,x=.int i/\Q (some i) H1
section
variable {X:Cx} {e:Expr} {te:TE} {lo hi:Option Expr} {tl th:TO} {pos p2:Pos}
theorem po_none:PO X none tNoPart:=by
 intro pins s σ H Q I h;rw [evalPart_none];exact uc ⟨none,H,I,.none,h⟩
theorem po_some (h:PE X e te):PO X (some e) (tPart te):=by
 intro pins s σ H Q I hw;rw [evalPart_some];refine thn (h pins s σ H _ I hw) fun u s1 ⟨x,H1,I1,r1,q1⟩=>?_;obtain ⟨i,rfl,q⟩:=q1;obtain ⟨t,rfl⟩:=r1;exact ⟨some i,H1,I1,.int i t,q⟩
noncomputable def SlR (X:Cx) (r:V->Option Int->Option Int->Hp->VK->Prop):Prop:=
 ∀ (pins:List (Addr×Obj)) (s:Shared) (σ:St) (H:Hp) (x:V) (v vl vu:Value) (lo hi:Option Int) (sl:Addr) (Q:VK),Inv X pins σ H s->RelV x v->s.heap.IsSliceOf sl vl vu .none->IsPart vl lo->IsPart vu hi->r x lo hi H Q->
  ∃ T id,typeLookup (.type T) "__getitem__" = pure (some (.builtin id))/\s.TypeIs v T/\wpAny (model X.prog X.w) X.A (getItem v (.ref sl)) (EP X pins σ Q) X.xe s
noncomputable def tSl (r:V->Option Int->Option Int->Hp->VK->Prop) (te:TE) (tl th:TO):TE:=fun σ H Q=>te σ H fun x H1=>tl σ H1 fun l H2=>th σ H2 fun u H3=>r x l u H3 Q
theorem qb {r:V->Option Int->Option Int->Hp->VK->Prop} (hr:SlR X r) (he:PE X e te) (hl:PO X lo tl) (hu:PO X hi th):PE X (.Subscript e (.Slice lo hi none p2) pos) (tSl r te tl th):=by
 intro pins s σ H Q I h;refine Subscript_ (thn (he pins s σ H _ I h) fun v s1 ⟨x,H1,I1,r1,q1⟩=>?_);refine wpAny_Slice (thn (hl pins s1 σ H1 _ I1 q1) fun vl s2 ⟨l,H2,I2,pl,q2⟩=>thn (hu pins s2 σ H2 _ I2 q2) fun vu s3 ⟨u,H3,I3,pu,q3⟩=>?_);rw [evalPart_none];refine uc ?_;have I4:Inv X pins σ H3 { s3 with heap:=s3.heap.push { cls:=.type "slice",data:=.fields #[vl,vu,.none] } }:=I3.kept (t':=s3.toks) fun b ob q=>Heap.get?_push_of_some _ q;obtain ⟨T,id,hT,ht,hg⟩:=hr pins { s3 with heap:=s3.heap.push { cls:=.type "slice",data:=.fields #[vl,vu,.none] } } σ H3 x v vl vu l u s3.heap.objs.size Q I4 r1 (Heap.IsSliceOf.new ..) pl pu q3;show wpAny (model X.prog X.w) X.A (subscriptTail e (.Slice lo hi none p2) v (.ref s3.heap.objs.size)) (EP X pins σ Q) X.xe { s3 with heap:=s3.heap.push { cls:=.type "slice",data:=.fields #[vl,vu,.none] } };exact tail_any (ops:=[.ref s3.heap.objs.size,v]) ht hT hg (by with_unfolding_all rfl)
noncomputable def cutV (xs:List V) (lo hi:Option Int):List V:=(xs.drop (HT.sIx xs.length 0 lo)).take (HT.sIx xs.length xs.length hi-HT.sIx xs.length 0 lo)
theorem kE (xs:List V) (lo hi:Option Int):(cutV xs lo hi).length<=xs.length:=by
 unfold cutV;rw [List.length_take,List.length_drop];omega
noncomputable def rSlT (K:Frag):V->Option Int->Option Int->Hp->VK->Prop:=fun x lo hi H Q=>∃ a xs,x=.ref a/\SqT K H a xs/\
 ¬(HT.sIx xs.length 0 lo=0/\HT.sIx xs.length xs.length hi=xs.length)/\∀ p,H p=none->Q (.ref p) (upd H p (.tup (cutV xs lo hi)))
theorem sl_tup:SlR X (rSlT X.K):=by
 intro pins s σ H x v vl vu lo hi sl Q I rx hs pl pu h;obtain ⟨a,xs,rfl,hx,hw,q⟩:=h;cases rx;obtain ⟨its,r,ht,hz⟩:=I.tuple hx;have hlen:its.toArray.size=xs.length:=by rw [List.size_toArray];exact r.length.symm
 refine ⟨"tuple",_,PyProof.Rows.slot_tuple_getitem.lookup,ht.typeIs,?_⟩;refine HT.getItem_tuple_cut ht hs pl pu (by rw [hlen];exact hw) ?_ (by rw [hlen];exact hz);rw [hlen];refine ⟨.ref s.heap.objs.size,_,I.laid (t':=s.toks) (o:=.tup (cutV xs lo hi)) (fun b ob q=>Heap.get?_push_of_some _ q) (Nat.le_refl _) ?_,rfl,q _ (I.hok.fresh (Nat.le_refl _))⟩;exact ⟨Nat.le_trans (kE xs lo hi) hz,_,(r.drop (HT.sIx xs.length 0 lo)).take (HT.sIx xs.length xs.length hi-HT.sIx xs.length 0 lo),IsTup.new _ _⟩
end
noncomputable def ixN (n:Nat) (i:Int):Option Nat:=if 0<=i then (if i<n then some i.toNat else none) else if -(n:Int)<=i then some (i+n).toNat else none
noncomputable def atI {α:Type} (xs:List α) (i:Int):Option α:=(ixN xs.length i).bind fun j=>xs[j]?
theorem ixN_seq {n:Nat} {i:Int} {j:Nat} (h:ixN n i=some j):seqIndex? i n=some j/\j<n/\-(n:Int)<=i/\i<n:=by
 unfold ixN at h;by_cases h0:0<=i
 ·rw [if_pos h0] at h;by_cases h1:i<n
  ·rw [if_pos h1] at h;have e:i.toNat=j:=Option.some.inj h;exact ⟨by rw [seqIndex_of h0 h1,e],by omega,by omega,h1⟩
  ·rw [if_neg h1] at h;cases h
 ·rw [if_neg h0] at h;by_cases h1:-(n:Int)<=i
  ·rw [if_pos h1] at h;have e:(i+n).toNat=j:=Option.some.inj h;exact ⟨by rw [seqIndex_neg (by omega) h1,e],by omega,h1,by omega⟩
  ·rw [if_neg h1] at h;cases h
theorem atI_get {α:Type} {xs:List α} {i:Int} {v:α} (h:atI xs i=some v):∃ j,seqIndex? i xs.length=some j/\xs[j]?=some v/\j<xs.length/\-(xs.length:Int)<=i/\i<xs.length:=by
 unfold atI at h;cases e:ixN xs.length i with
 | none=>rw [e] at h;cases h
 | some j=>
  rw [e] at h;obtain ⟨h1,h2,h3,h4⟩:=ixN_seq e;exact ⟨j,h1,h,h2,h3,h4⟩
theorem atI_nat {α:Type} {xs:List α} {j:Nat} {v:α} (h:xs[j]?=some v):atI xs (j:Int)=some v:=by
 have hj:j<xs.length:=(List.getElem?_eq_some_iff.mp h).1;have e:ixN xs.length (j:Int)=some j:=by
  unfold ixN;rw [if_pos (by omega),if_pos (by omega)];simp
 unfold atI;rw [e];exact h
noncomputable def jr (b:Expr):Prop:=∀ o i,subscripted b false o i=operate [o,i] (getItem o i)
noncomputable def IxR (X:Cx) (r:R2):Prop:=
 ∀ (value slice:Expr) (pins:List (Addr×Obj)) (s:Shared) (σ:St) (H:Hp) (x y:V) (v u:Value) (Q:VK),Inv X pins σ H s->RelV x v->RelV y u->r x y H Q->
  subscripted slice false v u=operate [v,u] (getItem v u)->wpAny (model X.prog X.w) X.A (subscriptTail value slice v u) (EP X pins σ Q) X.xe s
noncomputable def MtR (X:Cx) (id:String) (r:V->List V->Hp->VK->Prop):Prop:=
 ∀ (pins:List (Addr×Obj)) (s:Shared) (σ:St) (H:Hp) (x:V) (xs:List V) (v:Value) (us:List Value) (Q:VK),Inv X pins σ H s->RelV x v->aQ xs us->r x xs H Q->
  wpAny (model X.prog X.w) X.A (call (.builtin id) (v::us)) (EP X pins σ Q) X.xe s
section
variable {X:Cx} {a b:Expr} {ta tb:TE} {pos:Pos}
theorem IxR.or {r r':R2} (h:IxR X r) (h':IxR X r'):IxR X (fun x y H Q=>r x y H Q\/r' x y H Q):=by
 intro value slice pins s σ H x y v u Q I rx ry q hs;rcases q with q | q
 ·exact h value slice pins s σ H x y v u Q I rx ry q hs
 ·exact h' value slice pins s σ H x y v u Q I rx ry q hs
theorem pe_ix {r:R2} (hr:IxR X r) (ha:PE X a ta) (hb:PE X b tb) (hs:jr b):PE X (.Subscript a b pos) (tOp r ta tb):=by
 intro pins s σ H Q I h;exact Subscript_ (binT ha hb I h fun v u s2 x y H2 I2 rx ry q=>hr a b pins s2 σ H2 x y v u Q I2 rx ry q (hs _ _))
noncomputable def rIxL (K:Frag):R2:=fun x y H Q=>∃ p xs i v,x=.ref p/\y=.int i/\SqL K H p xs/\atI xs i=some v/\Q v H
noncomputable def rIxT (K:Frag):R2:=fun x y H Q=>∃ p xs i v,x=.ref p/\y=.int i/\SqT K H p xs/\atI xs i=some v/\Q v H
theorem oQ:IxR X (rIxL X.K):=by
 intro value slice pins s σ H x y v u Q I rx ry h hs;obtain ⟨p,xs,i,z,rfl,rfl,hq,he,q⟩:=h;cases rx;obtain ⟨t,rfl⟩:=ry;obtain ⟨its,r,pl,hz⟩:=I.list hq;obtain ⟨j,h1,h2,h3,h4,h5⟩:=atI_get he;obtain ⟨w,ew,rw'⟩:=r.get h2;have hl:=r.length;have hn:=oO;have fin:EP X pins σ Q w s:=⟨z,H,I,rw',q⟩;by_cases h0:0<=i
 ·have hj:i.toNat=j:=by
   rw [seqIndex_of h0 h5] at h1;exact Option.some.inj h1
  exact item_listR pl.isList h0 (by omega) (by rw [hj];simpa using ew) fin hs
 ·have hj:(i+(its.toArray.size:Int)).toNat=j:=by
   rw [seqIndex_neg (by omega) h4] at h1;rw [List.size_toArray,<-hl];exact Option.some.inj h1
  exact subscriptTail_builtinR (x:=w) pl.isList.typeIs slot_list_getitem.lookup
   (wpAny_getItem_list_neg (Q:=fun r s'=>r=w/\EP X pins σ Q r s') pl.isList (by omega) (by rw [List.size_toArray] <;> omega) (by omega) (by rw [hj];simpa using ew) ⟨rfl,fin⟩) hs
theorem ix_tup:IxR X (rIxT X.K):=by
 intro value slice pins s σ H x y v u Q I rx ry h hs;obtain ⟨p,xs,i,z,rfl,rfl,hq,he,q⟩:=h;cases rx;obtain ⟨t,rfl⟩:=ry;obtain ⟨its,r,pl,hz⟩:=I.tuple hq;obtain ⟨j,h1,h2,h3,h4,h5⟩:=atI_get he;obtain ⟨w,ew,rw'⟩:=r.get h2;have hl:=r.length;have hn:=oO;have fin:EP X pins σ Q w s:=⟨z,H,I,rw',q⟩;exact subscriptTail_builtinR (x:=w) pl.typeIs slot_tuple_getitem.lookup
  (getItem_tuple (j:=j) (Q:=fun r s'=>r=w/\EP X pins σ Q r s') pl (by omega) (by omega) (by rw [List.size_toArray,<-hl];exact h1) (by simpa using ew) ⟨rfl,fin⟩) hs
theorem oR (lo hi:Option Int) (n:Nat):(sliceBounds lo hi none n).1=((HT.sIx n 0 lo:Nat):Int)/\(sliceBounds lo hi none n).2.1=((HT.sIx n n hi:Nat):Int)/\(sliceBounds lo hi none n).2.2=1:=by
 refine ⟨?_,?_,rfl⟩
 ·cases lo with
  | none=>simp [sliceBounds,HT.sIx]
  | some i=>
   simp only [sliceBounds,HT.sIx,Option.getD_none,show (1:Int)>0 by decide,if_true];by_cases h:i<0
   ·simp only [h,if_true] <;> omega
   ·simp only [h,if_false] <;> omega
 ·cases hi with
  | none=>simp [sliceBounds,HT.sIx]
  | some i=>
   simp only [sliceBounds,HT.sIx,Option.getD_none,show (1:Int)>0 by decide,if_true];by_cases h:i<0
   ·simp only [h,if_true] <;> omega
   ·simp only [h,if_false] <;> omega
theorem nE (its:List Value) (lo hi:Option Int):slicePick its.toArray lo hi none=((its.drop (HT.sIx its.length 0 lo)).take (HT.sIx its.length its.length hi-HT.sIx its.length 0 lo)).toArray:=by
 obtain ⟨h1,h2,h3⟩:=oR lo hi its.toArray.size;unfold slicePick;rw [h1,h2,h3];simp only [sliceRange_one,pick_run,List.size_toArray] <;> rfl
noncomputable def rSlL (K:Frag):V->Option Int->Option Int->Hp->VK->Prop:=fun x lo hi H Q=>∃ a xs,x=.ref a/\SqL K H a xs/\∀ p,H p=none->Q (.ref p) (upd H p (.lst (cutV xs lo hi)))
theorem sl_list:SlR X (rSlL X.K):=by
 intro pins s σ H x v vl vu lo hi sl Q I rx hs pl pu h;obtain ⟨a,xs,rfl,hx,q⟩:=h;cases rx;obtain ⟨its,r,ht,hz⟩:=I.list hx;have hlen:=r.length;refine ⟨"list",_,slot_list_getitem.lookup,ht.isList.typeIs,?_⟩;refine wpAny_getItem_list_slice ht.isList hs pl pu .none (by simp) ?_ (by rw [List.size_toArray] <;> omega);rw [nE,<-hlen];refine ⟨.ref s.heap.objs.size,_,I.laid (t':=s.toks) (o:=.lst (cutV xs lo hi)) (fun b ob q=>Heap.get?_push_of_some _ q) (Nat.le_refl _) ?_,rfl,q _ (I.hok.fresh (Nat.le_refl _))⟩;exact ⟨Nat.le_trans (kE xs lo hi) hz,_,0,(r.drop (HT.sIx xs.length 0 lo)).take (HT.sIx xs.length xs.length hi-HT.sIx xs.length 0 lo),Heap.get?_push_size _ rfl⟩
theorem gr:ce X (.builtin "len") (fun xs H Q=>∃ p ys,xs=[.ref p]/\(SqL X.K H p ys\/SqT X.K H p ys)/\Q (.int ys.length) H):=by
 intro pins s σ H xs us Q I r h;obtain ⟨p,ys,rfl,hq,q⟩:=h;obtain ⟨u,rfl,rx⟩:=vals1 r;cases rx;have hn:=oO;rcases hq with hq | hq
 ·obtain ⟨its,r',pl,hz⟩:=I.list hq;have hlen:=r'.length;exact Calls.call_len_list pl.isList (by simp only [List.size_toArray] <;> omega) ⟨.int ys.length,H,I.tok _,⟨s.toks+1,by rw [List.size_toArray,hlen]⟩,q⟩
 ·obtain ⟨its,r',pl,hz⟩:=I.tuple hq;have hlen:=r'.length;exact len_tuple pl (by simp only [List.size_toArray] <;> omega) ⟨.int ys.length,H,I.tok _,⟨s.toks+1,by rw [List.size_toArray,hlen]⟩,q⟩
theorem oS:ce X (.builtin "len") (fun xs H Q=>∃ z,xs=[.str z]/\z.length<=sizeLine/\Q (.int z.length) H):=by
 intro pins s σ H xs us Q I r h;obtain ⟨z,rfl,hz,q⟩:=h;obtain ⟨u,rfl,t,rfl⟩:=vals1 r;have hn:=oO;exact len_str (by omega) ⟨.int z.length,H,I.tok _,⟨_,rfl⟩,q⟩
theorem jt:ce X (.type "list") (fun xs H Q=>∃ p ys,xs=[.ref p]/\(SqL X.K H p ys\/SqT X.K H p ys)/\∀ l,H l=none->Q (.ref l) (upd H l (.lst ys))):=by
 intro pins s σ H xs us Q I r h;obtain ⟨p,ys,rfl,hq,q⟩:=h;obtain ⟨u,rfl,rx⟩:=vals1 r;cases rx;have fin:∀ (its:List Value),aQ ys its->ys.length<=sizeLine->∀ (h':Heap) (c':Nat),(∀ b o',s.heap.get? b=some o'->h'.get? b=some o')->
   h'.get? s.heap.objs.size=some { cls:=.type "list",dict:=none,data:=.seq its.toArray c',slots:=#[] }->EP X pins σ Q (.ref s.heap.objs.size) { s with heap:=h' }:=fun its r' hz h' c' kp e=>
  ⟨.ref s.heap.objs.size,_,I.laid (t':=s.toks) kp (Nat.le_refl _) (show cN X.prog X.w _ h' _ (.lst ys) from ⟨hz,its,c',r',e⟩),rfl,q _ (I.hok.fresh (Nat.le_refl _))⟩
 rcases hq with hq | hq
 ·obtain ⟨its,r',pl,hz⟩:=I.list hq;have hlen:=r'.length;obtain ⟨o,ho,hc,n,hd⟩:=pl.isList;exact call_list_seq p (.inl rfl) ho hc hd (fun h' c' kp e=>fin its r' hz h' c' kp e) (by simp only [List.size_toArray] <;> omega)
 ·obtain ⟨its,r',pl,hz⟩:=I.tuple hq;have hlen:=r'.length;obtain ⟨o,ho,hc,n,hd⟩:=pl;exact call_list_seq p (.inr rfl) ho hc hd (fun h' c' kp e=>fin its r' hz h' c' kp e) (by simp only [List.size_toArray] <;> omega)
noncomputable def tyV (K:Frag) (T:String) (x:V) (H:Hp):Prop:=match x with
 | .str _=>T = "str"
 | .int _=>T = "int"
 | .ref p=>(T = "list"/\∃ xs,SqL K H p xs)\/(T = "tuple"/\∃ o,K.lookup p=some o/\o.cls=.type "tuple"/\o.dict=none)\/
  (T = "dict"/\((∃ kvs,H p=some (.dK kvs))\/∃ kvs,H p=some (.dT kvs)))\/(T = "set"/\∃ S n,H p=some (.set S n))
 | _=>False
theorem tyV_is {pins:List (Addr×Obj)} {σ:St} {H:Hp} {s:Shared} {T:String} {x:V} {v:Value} (I:Inv X pins σ H s) (r:RelV x v) (ty:tyV X.K T x H) :
  s.TypeIs v T/\∀ a,v=.ref a->∃ ob,s.heap.get? a=some ob/\ob.dict=none:=by
 cases x with
 | str z=>
  obtain ⟨t,rfl⟩:=r;cases (show T = "str" from ty);exact ⟨typeIs_str s z t,fun _ e=>nomatch e⟩
 | int i=>
  obtain ⟨t,rfl⟩:=r;cases (show T = "int" from ty);exact ⟨typeIs_int s i t,fun _ e=>nomatch e⟩
 | ref p=>
  cases r;rcases ty with ⟨rfl,xs,hq⟩ | ⟨rfl,o,hk,hc,hd⟩ | ⟨rfl,hk⟩ | ⟨rfl,S,n,hk⟩
  ·obtain ⟨its,_,pl,_⟩:=I.list hq;refine ⟨pl.isList.typeIs,fun a e=>?_⟩;cases e;obtain ⟨o,n,e,c,hd,_⟩:=pl;exact ⟨o,e,hd⟩
  ·refine ⟨⟨o,I.kIn p o hk,hc⟩,fun a e=>?_⟩;cases e;exact ⟨o,I.kIn _ o hk,hd⟩
  ·have z:∃ o,s.heap.get? p=some o/\o.ExactDict:=by
    rcases hk with ⟨kvs,hk⟩ | ⟨kvs,hk⟩
    ·obtain ⟨_,_,_,_,o,_,_,e,ex,_⟩:=I.hok p _ hk;exact ⟨o,e,ex⟩
    ·obtain ⟨_,_,_,_,o,_,_,e,ex,_⟩:=I.hok p _ hk;exact ⟨o,e,ex⟩
   obtain ⟨o,e,ex⟩:=z;refine ⟨⟨o,e,ex.1⟩,fun a e2=>?_⟩;cases e2;exact ⟨o,e,ex.2.1⟩
  ·obtain ⟨o,_,_,_,e,ex,_⟩:=I.hok p _ hk;refine ⟨⟨o,e,ex.1⟩,fun a e2=>?_⟩;cases e2;exact ⟨o,e,ex.2.1⟩
 | _=>exact False.elim ty
noncomputable def tBM0 (K:Frag) (T:String) (r:V->List V->Hp->VK->Prop) (to:TE):TE:=fun σ H Q=>to σ H fun x H1=>tyV K T x H1/\r x [] H1 Q
noncomputable def tBM (K:Frag) (T:String) (r:V->List V->Hp->VK->Prop) (to:TE) (t:TA):TE:=fun σ H Q=>to σ H fun x H1=>tyV K T x H1/\t σ H1 fun xs H2=>r x xs H2 Q
variable {o e:Expr} {es:List Expr} {to:TE} {t:TA} {name:Str} {apos cpos:Pos} {T id:String} {r:V->List V->Hp->VK->Prop}
theorem pe_bm0 (pa:PlainAttrs T) (slot:Slot T name id) (hty:typeOf (.builtin id)=pure (.type "method_descriptor")) (hm:MtR X id r) (ho:PE X o to)
  (uy:attributeBase o name X.env (eval o X.env)=eval o X.env:=by rfl) (uz:(apos.endLine==cpos.line)=true:=by rfl):PE X (.Call (.Attribute o name apos) [] [] cpos) (tBM0 X.K T r to):=by
 intro pins s σ H Q I h;refine wpAny_Call_method0_late uy uz (thn (ho pins s σ H _ I h) fun v s1 ⟨x,H1,I1,r1,ty,q1⟩=>?_);obtain ⟨h1,h2⟩:=tyV_is I1 r1 ty;exact ⟨T,id,pa,slot,hty,h1,h2,Calls.callWith_builtin rfl (PySem.evalArgs_none (hm pins s1 σ H1 x [] v [] Q I1 r1 .nil q1))⟩
theorem pe_bm (pa:PlainAttrs T) (slot:Slot T name id) (hty:typeOf (.builtin id)=pure (.type "method_descriptor")) (hm:MtR X id r) (ho:PE X o to) (ha:PA X (e::es) t)
  (uy:attributeBase o name X.env (eval o X.env)=eval o X.env:=by rfl)
  (vc:((backTo cpos (starEach (e::es) X.env)).all (fun x=>!x.1)&&(backToKw cpos (keywordEach [] X.env)).all (fun x=>x.1.isSome)
   &&decide ((e::es).length+([]:List Keyword).length+(if ([]:List Keyword).isEmpty then 0 else 1)<30))=true:=by rfl)
  (uz:(apos.endLine==cpos.line)=true:=by rfl) (hs:starEach (e::es) X.env=(false,eval e X.env)::starEach es X.env:=by rfl) (vg:(backTo cpos (starEach es X.env)).any (·.1)=false:=by rfl) :
  PE X (.Call (.Attribute o name apos) (e::es) [] cpos) (tBM X.K T r to t):=by
 intro pins s σ H Q I h;refine wpAny_Call_method_late uy vc uz rfl (thn (ho pins s σ H _ I h) fun v s1 ⟨x,H1,I1,r1,ty,q1⟩=>?_);obtain ⟨h1,h2⟩:=tyV_is I1 r1 ty;refine ⟨T,id,pa,slot,hty,h1,h2,?_⟩;have hA:=ha cpos pins s1 σ H1 _ I1 q1;rw [hs] at hA ⊢;refine Calls.callWith_builtin (by show (false||(backTo cpos (starEach es X.env)).any (·.1))=false;rw [vg] <;> rfl) (Calls.evalArgs_plain ?_);exact thn hA fun us s2 ⟨vs,H2,I2,r2,q2⟩=>hm pins s2 σ H2 x vs v us Q I2 r1 r2 q2
end
noncomputable def MtM (X:Cx) (id:String) (r:V->List V->Hp->VK->Prop):Prop:=
 ∀ (pins:List (Addr×Obj)) (s:Shared) (σ:St) (H:Hp) (x:V) (xs:List V) (v:Value) (us:List Value) (Q:VK),Inv X pins σ H s->RelV x v->aQ xs us->r x xs H Q->
  wpAny (model X.prog X.w) X.A (call (.builtin id) (v::us)) (EP X pins σ Q) X.xe s
theorem aQ.one:∀ {x:V} {us:List Value},aQ [x] us->∃ u,us=[u]/\RelV x u
 | _,_,.cons r .nil=>⟨_,rfl,r⟩
theorem aQ.two:∀ {x y:V} {us:List Value},aQ [x,y] us->∃ u v,us=[u,v]/\RelV x u/\RelV y v
 | _,_,_,.cons r (.cons q .nil)=>⟨_,_,rfl,r,q⟩
theorem aQ.zero:∀ {us:List Value},aQ [] us->us=[]
 | _,.nil=>rfl
theorem aQ.dropLast {xs:List V} {us:List Value} (h:aQ xs us):aQ xs.dropLast us.dropLast:=by
 induction h with
 | nil=>exact .nil
 | cons r t ih=>
  cases t with
  | nil=>exact .nil
  | cons q t'=>exact .cons r ih
theorem aQ.reverse {xs:List V} {us:List Value} (h:aQ xs us):aQ xs.reverse us.reverse:=by
 induction h with
 | nil=>exact .nil
 | cons r t ih=>rw [List.reverse_cons,List.reverse_cons];exact aQ.append ih (.cons r .nil)
theorem aQ.rep {xs:List V} {us:List Value} (h:aQ xs us):∀ k:Nat,aQ (List.replicate k xs).flatten (List.replicate k us).flatten
 | 0=>.nil
 | k+1=>by
  rw [List.replicate_succ,List.replicate_succ,List.flatten_cons,List.flatten_cons];exact aQ.append h (aQ.rep h k)
theorem rB {α:Type} (l:List α):l.eraseIdx (l.length-1)=l.dropLast:=by
 induction l with
 | nil=>rfl
 | cons a r ih=>
  cases r with
  | nil=>rfl
  | cons b r=>
   have e:(a::b::r).length-1=((b::r).length-1)+1:=by
    have h1:(a::b::r).length=r.length+2:=rfl;have h2:(b::r).length=r.length+1:=rfl;omega
   rw [e,List.eraseIdx_cons_succ,ih]
   all_goals rfl
theorem foldl_rep (its:List Value):∀ (k:Nat) (acc:List Value),
  List.foldl (fun x1 x2=>x1++x2) acc.toArray (List.replicate k its.toArray)=(acc++(List.replicate k its).flatten).toArray
 | 0,acc=>by simp
 | k+1,acc=>by
  have e:acc.toArray++its.toArray=(acc++its).toArray:=by simp
  have e2:(acc++its)++(List.replicate k its).flatten=acc++(List.replicate (k+1) its).flatten:=by
   rw [List.replicate_succ,List.flatten_cons,List.append_assoc]
  rw [<-e2,<-foldl_rep its k (acc++its),<-e,List.replicate_succ,List.foldl_cons]
section
variable {X:Cx} {pins:List (Addr×Obj)} {σ:St} {H:Hp} {s:Shared} {l b:Addr} {xs ys zs:List V}
theorem Inv.lset {its its':List Value} {n:Nat} {f:Array Value->Array Value} {t':Nat} (I:Inv X pins σ H s) (hH:H l=some (.lst xs))
  (e:s.heap.get? l=some { cls:=.type "list",data:=.seq its.toArray n }) (hf:f its.toArray=its'.toArray) (hv:aQ ys its') (hz:ys.length<=sizeLine) :
  Inv X pins σ (upd H l (.lst ys)) { s with heap:=s.heap.update l (Obj.mapSeq f),toks:=t' }:=by
 have q:=PySem.IsL.update e f;rw [hf] at q;refine I.write (x:=l) (e:=l) (by rw [hH];exact trivial) (.inl rfl) (fun b' u hb hu=>(Heap.get?_update_other s.heap (Obj.mapSeq f) (Ne.symm hb)).trans hu) ⟨_,q⟩ ?_;exact ⟨hz,its',_,hv,q⟩
theorem Inv.lnew {its:List Value} {t':Nat} (I:Inv X pins σ H s) (hv:aQ ys its) (hz:ys.length<=sizeLine) :
  Inv X pins σ (upd H s.heap.objs.size (.lst ys)) { s with heap:=s.heap.push { cls:=.type "list",data:=.seq its.toArray },toks:=t' }:=
 I.laid (fun _ _ q=>Heap.get?_push_of_some _ q) (Nat.le_refl _) ⟨hz,its,0,hv,Heap.get?_push_size _ rfl⟩
theorem Inv.fresh (I:Inv X pins σ H s):H s.heap.objs.size=none:=I.hok.fresh (Nat.le_refl _)
theorem Inv.lstM (I:Inv X pins σ H s) (hH:H l=some (.lst xs)):xs.length<=sizeLine/\∃ (its:List Value) (n:Nat),aQ xs its/\xs.length=its.length/\s.heap.get? l=some { cls:=.type "list",data:=.seq its.toArray n }:=by
 obtain ⟨z,its,n,r,e⟩:=I.hok l _ hH;exact ⟨z,its,n,r,r.length,e⟩
theorem qc {n:Nat} (h:n<=sizeLine):Builtin.List.listTooLong n=false:=by
 unfold Builtin.List.listTooLong;exact decide_eq_false (by omega)
end
section
variable {X:Cx}
noncomputable def rAppend:V->List V->Hp->VK->Prop:=fun x vs H Q=>∃ l xs y,x=.ref l/\vs=[y]/\H l=some (.lst xs)/\xs.length<sizeLine/\Q .non (upd H l (.lst (xs++[y])))
theorem iC:MtM X "list.append" rAppend:=by
 intro pins s σ H x vs v us Q I rx rv h;obtain ⟨l,xs,y,rfl,rfl,hH,hz,q⟩:=h;cases rx;obtain ⟨u,rfl,ru⟩:=rv.one;obtain ⟨z,its,n,r,hl,e⟩:=I.lstM hH;refine call_meets F.slot_list_append ⟨_,e,rfl⟩ F.entry_list_append (F.args_list_append_2 _ _) (PySem.list_append l its.toArray n u (by rw [List.size_toArray];omega)) ⟨e,?_⟩;refine ⟨.non,_,I.lset (its':=its++[u]) hH e (by simp) (r.append (.cons ru .nil)) ?_,rfl,q⟩;rw [List.length_append,List.length_singleton];omega
noncomputable def rExtend:V->List V->Hp->VK->Prop:=fun x vs H Q=>∃ l b xs zs,x=.ref l/\vs=[.ref b]/\H l=some (.lst xs)/\H b=some (.lst zs)/\xs.length+zs.length<=sizeLine/\Q .non (upd H l (.lst (xs++zs)))
theorem mt_extend:MtM X "list.extend" rExtend:=by
 intro pins s σ H x vs v us Q I rx rv h;obtain ⟨l,b,xs,zs,rfl,rfl,hH,hB,hz,q⟩:=h;cases rx;obtain ⟨u,rfl,ru⟩:=rv.one;cases ru;obtain ⟨z,its,n,r,hl,e⟩:=I.lstM hH;obtain ⟨z2,its2,n2,r2,hl2,e2⟩:=I.lstM hB;have hsz:its.toArray.size+its2.toArray.size<=sizeLine:=by rw [List.size_toArray,List.size_toArray];omega
 have hlong:¬(!its.toArray.isEmpty&&Builtin.List.listTooLong (its.toArray.size+its2.toArray.size))=true:=by
  rw [qc hsz,Bool.and_false];exact Bool.false_ne_true
 refine call_meets F.slot_list_extend ⟨_,e,rfl⟩ F.entry_list_extend (F.args_list_extend_2 _ _)
  (AutoSeq1.list_extend_list_list_0 l its.toArray n b its2.toArray n2 hlong (by rw [List.size_toArray];omega) (by omega)) ⟨e,e2,?_⟩
 refine ⟨.non,_,I.lset (its':=its++its2) hH e (by simp) (r.append r2) ?_,rfl,q⟩;rw [List.length_append];omega
noncomputable def rPop:V->List V->Hp->VK->Prop:=fun x vs H Q=>∃ l xs y,x=.ref l/\vs=[]/\H l=some (.lst xs)/\xs[xs.length-1]?=some y/\Q y (upd H l (.lst xs.dropLast))
theorem mt_pop:MtM X "list.pop" rPop:=by
 intro pins s σ H x vs v us Q I rx rv h;obtain ⟨l,xs,y,rfl,rfl,hH,hy,q⟩:=h;cases rx;have hus:=rv.zero;subst hus;obtain ⟨z,its,n,r,hl,e⟩:=I.lstM hH;obtain ⟨u,hu,ru⟩:=r.get hy;have hy':its.toArray[its.toArray.size-1]?=some u:=by
  show its.toArray[its.length-1]?=some u;rw [<-Array.getElem?_toList,<-hl];exact hu
 refine call_meets F.slot_list_pop ⟨_,e,rfl⟩ F.entry_list_pop (F.args_list_pop_1 _) (MeetsSeq.list_pop_last l its.toArray n u hy' (by rw [List.size_toArray];omega)) ⟨e,?_⟩;refine ⟨y,_,I.lset (its':=its.dropLast) hH e ?_ r.dropLast ?_,ru,q⟩
 ·show its.toArray.eraseIdxIfInBounds (its.toArray.size-1)=its.dropLast.toArray;rw [List.size_toArray,List.eraseIdxIfInBounds_toArray,rB]
 ·rw [List.length_dropLast];omega
noncomputable def rCat:R2:=fun x y H Q=>∃ l b xs zs,x=.ref l/\y=.ref b/\H l=some (.lst xs)/\H b=some (.lst zs)/\xs.length+zs.length<=sizeLine/\∀ p,H p=none->Q (.ref p) (upd H p (.lst (xs++zs)))
theorem op_cat:OpR X (binaryOp .Add) rCat:=by
 intro pins s σ H x y v u Q I rx ry h;obtain ⟨l,b,xs,zs,rfl,rfl,hH,hB,hz,q⟩:=h;cases rx;cases ry;obtain ⟨z,its,n,r,hl,e⟩:=I.lstM hH;obtain ⟨z2,its2,n2,r2,hl2,e2⟩:=I.lstM hB;refine PySem.P.add_list e e2 ?_ (by rw [List.size_toArray,List.size_toArray];omega);have ea:its.toArray++its2.toArray=(its++its2).toArray:=by simp
 rw [ea];exact ⟨.ref _,_,I.lnew (t':=s.toks) (r.append r2) (by rw [List.length_append];omega),rfl,q _ I.fresh⟩
noncomputable def rRep:R2:=fun x y H Q=>∃ l k xs,x=.ref l/\y=.int k/\H l=some (.lst xs)/\-(2 ^ 63)<=k/\k<2 ^ 63/\xs.length*k.toNat<=sizeLine/\
 ∀ p,H p=none->Q (.ref p) (upd H p (.lst (List.replicate k.toNat xs).flatten))
theorem len_rep {α:Type} (xs:List α) (k:Nat):(List.replicate k xs).flatten.length=k*xs.length:=by
 induction k with
 | zero=>simp
 | succ k ih=>rw [List.replicate_succ,List.flatten_cons,List.length_append,ih,Nat.succ_mul,Nat.add_comm]
theorem op_rep:OpR X (binaryOp .Mult) rRep:=by
 intro pins s σ H x y v u Q I rx ry h;obtain ⟨l,k,xs,rfl,rfl,hH,h1,h2,hz,q⟩:=h;cases rx;obtain ⟨t,rfl⟩:=ry;obtain ⟨z,its,n,r,hl,e⟩:=I.lstM hH;have hlen:its.toArray.size*k.toNat<=sizeLine:=by rw [List.size_toArray,<-hl];exact hz
 have hcap:¬its.toArray.size*k.toNat>(2 ^ 63-1) / 8:=by
  have:(sizeLine:Nat)<=(2 ^ 63-1) / 8:=by decide
  omega
 have hfit:¬(!Builtin.List.listFitsIndex k)=true:=by
  rw [fitsIndex_both h1 h2];exact Bool.false_ne_true
 have hlong:¬Builtin.List.listTooLong (its.toArray.size*k.toNat)=true:=by
  rw [qc hlen];exact Bool.false_ne_true
 have hnew:List.foldl (fun x1 x2=>x1++x2) #[] (List.replicate (if its.toArray.isEmpty=true then 0 else k.toNat) its.toArray)=(List.replicate k.toNat its).flatten.toArray:=by
  have f0:∀ m:Nat,List.foldl (fun x1 x2=>x1++x2) #[] (List.replicate m its.toArray)=(List.replicate m its).flatten.toArray:=fun m=>by
   have:=foldl_rep its m [];rw [List.nil_append] at this;exact this
  rw [f0];cases its with
  | nil=>simp
  | cons a r'=>rw [if_neg (by simp)]
 refine wpAny_binaryOp_repeat_ref (T:="list") (U:="int") (by decide) ⟨_,e,rfl⟩ (fun s'=>typeIs_int s' k t) noFill_list_mul F.fills_int_mul F.slot_int_rmul repeat_list F.slot_int_index.lookup
  (call_meets F.slot_int_rmul (typeIs_int s k t) F.entry_int_rmul (F.args_int_rmul_2 _ _) (int___rmul___int_list k t l its.toArray n)
   ⟨e,rfl,⟨_,e,rfl⟩,call_meets F.slot_list_mul ⟨_,e,rfl⟩ F.entry_list_mul (F.args_list_mul_2 _ _) (AutoListH.list___mul___list_int_3 l its.toArray n k t hfit hcap hlong) ⟨e,?_⟩⟩)
 rw [hnew];exact ⟨.ref _,_,I.lnew (t':=s.toks) (r.rep k.toNat) (by rw [len_rep,Nat.mul_comm];exact hz),rfl,q _ I.fresh⟩
end
end L2
namespace Att
open PySem PySem.W PySem.Calls PyProof.Rows
theorem k6 {P:Params} {h:Heap}:∀ (ns:List Int) (vs:List Value),WellAll P h vs (ns.map WData.int)->IntsAre vs ns:=by
 intro ns
 induction ns with
 | nil=>
  intro vs w;rw [List.map_nil] at w;cases w;exact .nil
 | cons n ns ih=>
  intro vs w;rw [List.map_cons] at w;cases w with
  | cons a b=>
   cases a;exact .cons _ _ (ih _ b)
theorem script_of {l:OpenLaw} {n:Nat} (hn:l.most=some n) {P:Params} {h:Heap} {args:List WData} {vals:List Value}
    (hpre:l.row.toRowW.claim.pre args=true) (hwl:WellAll P h vals args) :
    ∃ a vs ns,vals=[Value.ref a]/\args=[WData.list (ns.map WData.int)]/\h.get? a=some { cls:=.type "list",data:=.seq vs.toArray }/\IntsAre vs ns/\ns.length<=n:=by
  have hsh:WShape.hasAll [] args [.list .int]=true:=(pre_splitW hpre).1;have hc:l.pre.holds [] { args:=args }=true:=(pre_splitW hpre).2;obtain ⟨d,r,rfl,h1,h2⟩:=hasAllW_cons hsh;obtain rfl:=hasAllW_nil h2;obtain ⟨xs,rfl,h3⟩:=hasW_list h1;obtain ⟨ns,rfl⟩:=items_int h3;have hlen:ns.length<=n:=by
    unfold OpenLaw.pre at hc;have h4:(WTm.not (.lt (.lit (.int (n:Int))) (.len (.arg 0)))).holds [] { args:=[.list (ns.map .int)] }=true:=by
      have h4:=(holds_andW hc).1;rw [hn] at h4;exact h4
    have h5:=condW_of h4 (w_not (w_lt w_lit (w_len_list (w_arg rfl))));rw [uk] at h5;refine Nat.le_of_not_lt fun q=>?_;have q':(n:Int)<((ns.length:Nat):Int):=by omega
    first
      | (rw [decide_eq_true q'] at h5;exact absurd h5 (by decide))
      | (simp at h5;omega)
  cases hwl with
  | cons w1 w2=>
    cases w2;cases w1 with
    | list ho hall=>exact ⟨_,_,ns,rfl,rfl,ho,k6 ns _ hall,hlen⟩
theorem post_true (l:OpenLaw) (args:List WData):l.row.toRowW.claim.post args (.bool true) args=true:=
 postW_of (r:=l.row.toRowW) (X:=(true==true))
  (show WShape.has [] (.bool true) .bool=true by first | rfl | decide | simp [WShape.has,WShape.arms,WShape.armsAll])
  (show (WTm.eq .res (.lit (.bool true))).value [] { args:=args,res:=some (.bool true),after:=args }=some (.bool (true==true)) from w_eq_bool (w_res rfl) w_lit) rfl
theorem attach_call {l:OpenLaw} {n:Nat} {q:Program} {loose:List Str} {XP:(Str->Option Value)->Heap->Prop} {YP:World->Heap->Prop} {d:DefRec}
  (hn:l.most=some n) (hdf:d.params.defaults=[])
  (call:∀ (w:World) (s₀ s₁:Shared) (mg mb:Str->Option Value) (fa:Addr) (o:Obj) (pm cd doc:Value) (a:Addr) (vs:List Value) (ns:List Int),
   Ground q loose [] XP w s₀ mg mb s₁.heap->YP w s₁.heap->
   s₁.heap.get? fa=some o->o.data=.func (docDef d.name d.params d.body d.scope pm cd doc)->s₁.heap.CodeRec cd d.name->mg d.name=some (.ref fa)->
   s₁.heap.get? a=some { cls:=.type "list",data:=.seq vs.toArray }->IntsAre vs ns->ns.length<=n->s₁.gens=#[]->
   codeAny (model l.prog w) callerA (.call (.ref fa) ⟨[.ref a],[]⟩) (fun r s'=>r=.ok (.ret (.bool true))/\OldK s₁.heap s'.heap/\s'.os=s₁.os/\AllBare s'.gens) s₁) :
  WalkO q loose XP YP l.row.toRowW d [] (fun f vs=>PySem.call f vs):=by
 intro w s₀ s₁ mg mb G Y fa o pm cd doc dV kV ho hd hcd hD hmg hg args vals as hpre hlay hrd hwl hlo;obtain rfl:dV=.none:=Dflts.none hD hdf;obtain rfl:kV=.none:=Dflts.noKw hD;obtain ⟨a,vs,ns,rfl,rfl,hobj,hints,hlen⟩:=script_of hn hpre hwl;refine enter_call (codeAny_mono (call w s₀ s₁ mg mb fa o pm cd doc a vs ns G Y ho (fd_plain hd) hcd hmg hobj hints hlen hg) fun r s' hq=>?_);obtain ⟨rfl,h2,h3,h4⟩:=hq;exact ⟨.inl ⟨.bool true,.bool true,[],rfl,fun _=>rfl,.bool true,post_true l _,fun _=>⟨List.Pairwise.nil,fun _ hm=>(nomatch hm)⟩⟩,h2,h3,h4⟩
end Att
namespace L2
open PySem PySem.Spec PyProof.Rows
theorem nY:∀ {vs:List Value} {ns:List Int},IntsAre vs ns->aQ (ns.map V.int) vs
 | _,_,.nil=>.nil
 | _,_,.cons n t h=>.cons ⟨t,rfl⟩ (nY h)
noncomputable def Only (H:Hp):Prop:=∀ b,H b=none\/∃ o xs,H b=some (.frz o (.lst xs))
theorem law_call {P:Program} {w:World} {K:Frag} {mg mb:Str->Option Value} {CX:CXT} {k:Nat} {fa a:Addr} {fd:FuncData} {x:Str} {sp:Sp} {s₁:Shared} {vs:List Value} {ns:List Int}
  (KX:K.In s₁.heap) (hns:s₁.heap.Ns mainGlobals mg) (hb:s₁.heap.Ns builtinsNs mb) (hbb:∀ x:Str,x≠"__name__"->mb x=bootBuiltins x) (hlim:s₁.heap.NoLimit) (hg:s₁.gens=#[])
  (ha:s₁.heap.get? a=some { cls:=.type "list",data:=.seq vs.toArray }) (hi:IntsAre vs ns) (hl:ns.length<=sizeLine) (hr:bG k callerA)
  (F:∀ base:Heap,K.In base->base.Ns mainGlobals mg->eM P w K mg base CX k fa fd [x] sp) (hbind:∀ (s:Shared) (u:Value),BindsTo s fd ⟨[u],[]⟩ [(x,u)])
  (hsp:∀ H:Hp,Only H->SqL K H a (ns.map V.int)->sp [.ref a] H (fun v _=>v=.bl true) fun _ _ _=>False)
  (hCX:∀ H e s',CX [] H s₁ (fun _ _ _=>False) e s'->False) :
  codeAny (model P w) callerA (.call (.ref fa) ⟨[.ref a],[]⟩) (fun r s'=>r=.ok (.ret (.bool true))/\OldK s₁.heap s'.heap/\s'.os=s₁.os/\AllBare s'.gens) s₁:=by
 have rv:=nY hi;have lenV:=hi.length;have core:∀ H:Hp,Only H->SqL K H a (ns.map V.int)->HOk P w H s₁.heap->(∀ b,H b≠none->b=a)->(H a≠none->K.lookup a=none)->
   codeAny (model P w) callerA (.call (.ref fa) ⟨[.ref a],[]⟩) (fun r s'=>r=.ok (.ret (.bool true))/\OldK s₁.heap s'.heap/\s'.os=s₁.os/\AllBare s'.gens) s₁:=by
  intro H hO hS hok hA hK;have base_of:∀ {b:Addr} {o:Obj},s₁.heap.get? b=some o->H b=none->(hidT s₁.heap H).get? b=some o:=fun e n=>hidT_get e n;have noA:∀ {b:Addr} {o:Obj} {es:Array DictEntry} {ep:Nat},s₁.heap.get? b=some o->o.data=.dict es ep->H b=none:=fun {b o es ep} e d=>by
   cases q:H b with
   | none=>rfl
   | some u=>
    have e':b=a:=hA b (by rw [q];simp);subst e';rw [ha] at e;cases e;have d':Data.seq vs.toArray _=Data.dict es ep:=d;cases d'
  have nsK:∀ {b:Addr} {m:Str->Option Value},s₁.heap.Ns b m->(hidT s₁.heap H).Ns b m:=fun {b m} ⟨o,es,ep,e,d,r⟩=>⟨o,es,ep,base_of e (noA e d),d,r⟩;have hKb:K.In (hidT s₁.heap H):=fun b o e=>base_of (KX b o e) (by
   cases q:H b with
   | none=>rfl
   | some u=>
    have e':b=a:=hA b (by rw [q];simp);subst e';rw [hK (by rw [q];simp)] at e;cases e)
  have hM:Mod K mg (hidT s₁.heap H):=⟨hKb,nsK hns,⟨mb,nsK hb,hbb⟩,let ⟨mc,h1,h2⟩:=hlim;⟨mc,nsK h1,h2⟩⟩;have e0:Env0 P w K mg (hidT s₁.heap H) callerA [] s₁ H:=⟨rfl,hM,fun b o e=>of_hidT e,Nat.le_of_eq (hidT_size _ _),trivial,fun b hb=>absurd (show b∈([]:List Addr) from hb) (by simp),hok,.of_eq hg⟩;refine codeAny_mono ((F _ hKb (nsK hns)).run callerA [] s₁ H ⟨[.ref a],[]⟩ [.ref a] [.ref a] _ _ hr e0 (hbind s₁ (.ref a)) (.cons rfl .nil) (hsp H hO hS)) fun r s' h=>?_;cases r with
  | error e=>exact (hCX H e s' h).elim
  | ok fl=>
   cases fl with
   | next=>exact False.elim h
   | brk=>exact False.elim h
   | cont=>exact False.elim h
   | ret u=>
    obtain ⟨v,H',os,bare,un,hok',r',q⟩:=h;have q':v=.bl true:=q;subst q';obtain rfl:u=Value.bool true:=r';refine ⟨rfl,OldK.of_keep fun b o e=>?_,os,bare⟩;cases q:H b with
    | none=>exact un.keep b o e q (by intro z;exact absurd (show b∈([]:List Addr) from z) (by simp)) (by simp)
    | some u=>
     rcases hO b with z | ⟨ob,xs,z⟩
     ·rw [q] at z;cases z
     ·have z2:=un.frzs b ob _ z;obtain ⟨e1,_⟩:=hok b _ z;obtain ⟨e2,_⟩:=hok' b _ z2;rw [e] at e1;cases e1;exact e2
 cases hk:K.lookup a with
 | some o=>
  have e:=KX a o hk;rw [ha] at e;cases e;refine core (fun _=>none) (fun _=>.inl rfl) (.inr ⟨_,vs.toArray,_,hk,rfl,rfl,rfl,by rw [List.size_toArray,lenV];exact hl,by simpa using rv⟩) (fun b u z=>by have z':(none:Option HO)=some u:=z;cases z') (fun b z=>absurd rfl z) fun z=>absurd rfl z
 | none=>
  refine core (fun b=>if b=a then some (.frz { cls:=.type "list",data:=.seq vs.toArray } (.lst (ns.map V.int))) else none) (fun b=>?_) (.inl (.inr ⟨{ cls:=.type "list",data:=.seq vs.toArray },if_pos rfl⟩)) (fun b u z=>?_) (fun b z=>?_) fun _=>hk
  ·by_cases hb:b=a
   ·exact .inr ⟨_,_,if_pos hb⟩
   ·exact .inl (if_neg hb)
  ·by_cases hb:b=a
   ·have z':=(if_pos hb).symm.trans z;cases z';subst hb;exact ⟨ha,by rw [uk];exact hl,vs,_,rv,ha⟩
   ·have z':=(if_neg hb).symm.trans z;cases z'
  ·by_cases hb:b=a
   ·exact hb
   ·exact absurd (if_neg hb) z
abbrev KOf {K:Frag} {h:Heap} (_:K.In h):Frag:=K
theorem walk_of {l:OpenLaw} {n k:Nat} {q:Program} {loose:List Str} {XP:(Str->Option Value)->Heap->Prop} {YP:World->Heap->Prop} {d:DefRec} {K:Params->Frag} {CX:World->CXT} {sp:World->Sp} {x:Str}
  (hn:l.most=some n) (hn2:n<=sizeLine) (hdf:d.params.defaults=[]) (hr:bG k callerA)
  (hY:∀ (w:World) (h:Heap),YP w h->(K w.params).In h)
  (F:∀ (w:World) (mg:Str->Option Value) (fa:Addr) (h:Heap),(K w.params).In h->h.Ns mainGlobals mg->mg d.name=some (.ref fa)->
   ∃ fd:FuncData,(∀ (s:Shared) (u:Value),BindsTo s fd ⟨[u],[]⟩ [(x,u)])/\
    ∀ base:Heap,(K w.params).In base->base.Ns mainGlobals mg->eM l.prog w (K w.params) mg base (CX w) k fa fd [x] (sp w))
  (hsp:∀ (w:World) (H:Hp) (a:Addr) (ns:List Int),ns.length<=n->Only H->SqL (K w.params) H a (ns.map V.int)->sp w [.ref a] H (fun v _=>v=.bl true) fun _ _ _=>False)
  (hCX:∀ (w:World) (H:Hp) (s:Shared) (e:Value) (s':Shared),CX w [] H s (fun _ _ _=>False) e s'->False) :
  WalkO q loose XP YP l.row.toRowW d [] (fun f vs=>PySem.call f vs):=by
 refine Att.attach_call hn hdf fun w s₀ s₁ mg mb fa o pm cd doc a vs ns G Y ho hd hcd hmg hobj hints hlen hg=>?_;have KX:=hY w _ Y;obtain ⟨fd,hb,hF⟩:=F w mg fa _ KX G.T.g hmg;exact law_call KX G.T.g G.T.b G.T.builtins G.T.nolimit hg hobj hints (Nat.le_trans hlen hn2) hr hF hb (fun H hO hS=>hsp w H a ns hlen hO hS) fun H e s'=>hCX w H s₁ e s'
theorem walk_ofK {l:OpenLaw} {n k:Nat} {q:Program} {loose:List Str} {XP:(Str->Option Value)->Heap->Prop} {YP:World->Heap->Prop} {d:DefRec} {K:Params->Frag} {CX:CXT} {sp:Frag->Sp} {x:Str}
  (hn:l.most=some n) (hn2:n<=sizeLine) (hdf:d.params.defaults=[]) (hr:bG k callerA)
  (hY:∀ (w:World) (h:Heap),YP w h->(K w.params).In h)
  (F:∀ (w:World) (mg:Str->Option Value) (fa:Addr) (h:Heap),(K w.params).In h->h.Ns mainGlobals mg->mg d.name=some (.ref fa)->
   ∃ fd:FuncData,(∀ (s:Shared) (u:Value),BindsTo s fd ⟨[u],[]⟩ [(x,u)])/\
    ∀ base:Heap,(K w.params).In base->base.Ns mainGlobals mg->eM l.prog w (K w.params) mg base CX k fa fd [x] (sp (K w.params)))
  (hsp:∀ (K:Frag) (H:Hp) (a:Addr) (ns:List Int),ns.length<=n->Only H->SqL K H a (ns.map V.int)->sp K [.ref a] H (fun v _=>v=.bl true) fun _ _ _=>False)
  (hCX:∀ (H:Hp) (s:Shared) (e:Value) (s':Shared),CX [] H s (fun _ _ _=>False) e s'->False) :
  WalkO q loose XP YP l.row.toRowW d [] (fun f vs=>PySem.call f vs):=
 walk_of (K:=K) (CX:=fun _=>CX) (sp:=fun w=>sp (K w.params)) hn hn2 hdf hr hY F (fun w H a ns h1 h2 h3=>hsp (K w.params) H a ns h1 h2 h3) fun _ H s e s'=>hCX H s e s'
noncomputable def inClass (s:Stmt) (j:Nat):Stmt:=match s with
 | .ClassDef _ _ _ body _ _ _ _ _ _ _=>body.getD j (.Pass ⟨0,0,0,0⟩)
 | _=>.Pass ⟨0,0,0,0⟩
noncomputable def bp (s:Stmt):Arguments:=match s with
 | .FunctionDef _ a _ _ _ _ _ _ _ _=>a
 | _=>{ posonlyargs:=[],args:=[],vararg:=none,kwonlyargs:=[],kw_defaults:=[],kwarg:=none,defaults:=[] }
noncomputable def aU (s:Stmt):List Stmt:=match s with
 | .FunctionDef _ _ b _ _ _ _ _ _ _=>b
 | _=>[]
noncomputable def au (s:Stmt):Scope:=match s with
 | .FunctionDef _ _ _ _ _ _ sc _ _ _=>sc
 | _=>{ kind:=.function,names:=[],isGenerator:=false,isCoroutine:=false }
abbrev CX0:CXT:=fun _ _ _ _ _ _=>False
abbrev E0:XK:=fun _ _ _=>False
theorem lX {X:Cx}:i7 CX0 X E0:=fun _ _ _ _ _ _ _ h=>h.elim
structure Fun (K:Frag) (x qual:Str) (st:Stmt) (f:Addr) (fd:FuncData):Prop where
 ex:∃ (oc:Value) (od:Option Addr) (kV doc pm:Value) (an:Option Addr) (ux ct:Value) (osl:Array (Option Value)),
  fd=fnOf x qual (bp st) (aU st) (au st) .none kV doc pm an ux ct/\K.lookup f=some ⟨oc,od,.func fd,osl⟩/\codeIn K ux qual=true
 kp:keepIn K (.ref f)=true
section
variable {P:Program} {w:World} {K:Frag} {mg:Str->Option Value} {base:Heap}
theorem Fun.ok {x qual:Str} {st:Stmt} {f:Addr} {fd:FuncData} {N ps:List Str} {k:Nat} {sp:Sp} (F:Fun K x qual st f fd) (S:d6 N ps (au st)) (len:∀ vs H Q E,sp vs H Q E->vs.length=ps.length)
  (vf:∀ (ux:Value) (A:Around) (outer:List Env) (s:Shared) (H:Hp) (vs:List V) (Q:VK) (E:XK),bG k (A.deeper (envOfC qual (au st) s.heap.objs.size f ux))->sp vs H Q E->
   ∃ t,PSs (j8 CX0 P w K mg base N qual (au st) f ux A outer s H E).nox (aU st) t/\t { nx:=fun _ H'=>Q .non H',rt:=Q } (start N vs) H):eM P w K mg base CX0 (k+1) f fd ps sp:=by
 obtain ⟨oc,od,kV,doc,pm,an,ux,ct,osl,rfl,lk,hcd⟩:=F.ex;refine fn_of lk hcd S len fun A outer s H vs Q E hr hsp=>?_;obtain ⟨t,h,q⟩:=vf ux A outer s H vs Q E hr hsp;exact ⟨t,h.nox,q⟩
theorem Fun.binds {x qual:Str} {st:Stmt} {f:Addr} {fd:FuncData} {ps:List Str} (F:Fun K x qual st f fd)
  (h:∀ (kV doc pm:Value) (an:Option Addr) (ux ct:Value) (us:List Value),us.length=ps.length->bindArgs (fnOf x qual (bp st) (aU st) (au st) .none kV doc pm an ux ct) ⟨us,[]⟩=pure (ps.zip us)):Binds K fd ps []:=by
 obtain ⟨oc,od,kV,doc,pm,an,ux,ct,osl,rfl,lk,hcd⟩:=F.ex;exact .all (h kV doc pm an ux ct)
theorem kc {x qual:Str} {st:Stmt} {f:Addr} {oc:Value} {od an:Option Addr} {osl:Array (Option Value)} {kV doc pm ux ct:Value} (l:K.lookup f=some ⟨oc,od,.func (fnOf x qual (bp st) (aU st) (au st) .none kV doc pm an ux ct),osl⟩)
 (c:codeIn K ux qual=true) (k:keepIn K (.ref f)=true):Fun K x qual st f (fnOf x qual (bp st) (aU st) (au st) .none kV doc pm an ux ct):=⟨⟨oc,od,kV,doc,pm,an,ux,ct,osl,rfl,l,c⟩,k⟩
end
section
variable {X:Cx}
theorem pv (i:Nat) {x:Str} {pos:Pos} (hN:X.N[i]?=some x:=by rfl) (hv:Vis X.env.scope x:=by first | exact Or.inl rfl | exact Or.inr (Or.inl rfl) | exact Or.inr (Or.inr rfl)) (hd:(x==("__debug__" : Str))=false:=by decide)
 (hcd:(x==("__classdict__" : Str))=false:=by decide):PE X (.Name x pos) (iY i):=pe_var hN hv hd hcd
end
noncomputable def aO (H H':Hp):Prop:=∀ b o,H b=some o->H' b=some o
theorem aO.refl (H:Hp):aO H H:=fun _ _ h=>h
theorem aO.trans {H H1 H2:Hp} (a:aO H H1) (b:aO H1 H2):aO H H2:=fun c o h=>b c o (a c o h)
theorem aO.free {H H':Hp} (e:aO H H') {l:Addr} (h:H' l=Option.none):H l=Option.none:=by
 cases q:H l with
 | none=>rfl
 | some o=>
  rw [e l o q] at h;cases h
theorem oU {prog:Program} {w:World} {A:Around} {R:Result->Shared->Prop} {s:Shared} {elt target iter:Expr} {ifs:List Expr} {scope:Scope} {pos:Pos} {it acc:Value} {env:Env} (J:Nat->Shared->Prop)
  (turn:∀ n s,J n s->wpAny (model prog w) A (pyNext it) (fun r s₁=>match r with
   | none=>R (.ok .next) s₁
   | some v=>wpAny (model prog w) A (letOwnedTupleGo target it v) (fun _ s₂=>wpAny (model prog w) A (assign target env v) (fun _ s₃=>
    wpAny (model prog w) A (forIn ifs true fun c r=>if r=true then do let ok <-isTrue c env (eval c env);pure (ForInStep.yield ok) else pure (ForInStep.yield r)) (fun ok s₄=>
     if ok=true then wpAny (model prog w) A (eval elt env) (fun x s₅=>
      wpAny (model prog w) A (call (.builtin "list.append") [acc,x]) (fun _ s₆=>∃ m,m<n/\J m s₆) (fun _ _=>False) s₅) (fun _ _=>False) s₄
     else ∃ m,m<n/\J m s₄) (fun _ _=>False) s₃) (fun _ _=>False) s₂) (fun _ _=>False) s₁) (fun _ _=>False) s)
  (n:Nat) (h:J n s) :
  codeAny (model prog w) A (.compLoop (.ListComp elt [⟨target,iter,ifs,0⟩] scope pos) 0 it acc env) R s:=by
 refine codeAny_loop rfl J (fun n s hI=>?_) n h;show wpAny _ A ((compTurn (.ListComp elt [⟨target,iter,ifs,0⟩] scope pos) 0 it acc env).onRaise (fun x=>do noteFrame x env;theTreesLotGoes x)) _ _ s;refine wpAny_noted ?_;rw [compTurn_list];refine ub (wpAny_standAt (ub (wpAny_mono (turn n s hI) (fun r s₁ h₁=>?_) fun _ _ z=>z.elim)));cases r with
 | none=>exact uc h₁
 | some v=>
  refine ub (wpAny_mono h₁ (fun _ s₂ h₂=>?_) fun _ _ z=>z.elim);refine ub (wpAny_mono h₂ (fun _ s₃ h₃=>ub (wpAny_mono h₃ (fun ok s₄ h₄=>?_) fun _ _ z=>z.elim)) fun _ _ z=>z.elim);cases ok with
  | false=>exact uc ⟨rfl,h₄⟩
  | true=>
   exact ub (ub (wpAny_mono h₄ (fun x s₅ h₅=>ub (wpAny_mono h₅ (fun _ s₆ h₆=>uc (uc ⟨rfl,h₆⟩)) fun _ _ z=>z.elim)) fun _ _ z=>z.elim))
noncomputable def g4 (cs:List (Str×Addr)):List (Str×NameKind)->List (Str×Addr)->List (Str×Addr)
  | [],acc=>acc
  | (n,k)::r,acc=>if k==.free then g4 cs r ((n,(cs.lookup n).getD 0)::acc) else g4 cs r acc
theorem iP {scope:Scope} {env:Env} (h:∀ p∈scope.names,p.2=.free->∃ c,env.cells.lookup p.1=some c):closureFor scope env=pure (g4 env.cells scope.names []):=by
  simp only [closureFor];have go:∀ (ns:List (Str×NameKind)) (acc:List (Str×Addr)),(∀ p∈ns,p.2=.free->∃ c,env.cells.lookup p.1=some c)->
      (forIn ns acc fun (x:Str×NameKind) (r:List (Str×Addr))=>(match x with | (name,kind)=>if (kind==NameKind.free)=true then do let y <-cellOf env name;pure (ForInStep.yield ((name,y)::r)) else pure (ForInStep.yield r):Sem _))=(pure (g4 env.cells ns acc):Sem _):=by
    intro ns
    induction ns with
    | nil=>intro acc _;rfl
    | cons p r ih=>
      intro acc hp;obtain ⟨n,k⟩:=p;rw [List.forIn_cons];by_cases hk:k=.free
      . subst hk
        obtain ⟨c,hc⟩:=hp (n,.free) List.mem_cons_self rfl;have hc:env.cells.lookup n=some c:=hc;have e1:cellOf env n=pure c:=by unfold cellOf;rw [hc]
        simp only [e1,beq_self_eq_true,if_true,pure_bind,g4,hc,Option.getD_some];exact ih _ fun p hp'=>hp p (uf _ hp')
      . have hb:(k==NameKind.free)=false:=by simpa using hk
        simp only [hb,Bool.false_eq_true,if_false,pure_bind,g4];exact ih _ fun p hp'=>hp p (uf _ hp')
  have:=go scope.names [] h
  first
    | (rw [this];rfl)
    | (simp only [this];rfl)
    | simpa using this
theorem oV {cs:List (Str×Addr)} {x:Str} {c:Addr}:∀ (ns:List (Str×NameKind)) (acc:List (Str×Addr)),(∀ p∈ns,p.2=.free->∃ c,cs.lookup p.1=some c)->(g4 cs ns acc).lookup x=some c->acc.lookup x=some c\/cs.lookup x=some c
  | [],acc,_,h=>.inl h
  | (n,k)::r,acc,hp,h=>by
    unfold g4 at h;by_cases hk:k=.free
    . subst hk
      simp only [beq_self_eq_true,if_true] at h;obtain ⟨d,hd⟩:=hp (n,.free) List.mem_cons_self rfl;have hd:cs.lookup n=some d:=hd;rcases oV r _ (fun p hp'=>hp p (uf _ hp')) h with q | q
      . rw [List.lookup_cons] at q
        cases hx:x==n with
        | true=>
          rw [hx] at q;have e:x=n:=by simpa using hx
          subst e;rw [hd] at q;simp at q;exact .inr (by rw [hd,q])
        | false=>rw [hx] at q;exact .inl q
      . exact .inr q
    . have hb:(k==NameKind.free)=false:=by simpa using hk
      simp only [hb,Bool.false_eq_true,if_false] at h;exact oV r _ (fun p hp'=>hp p (uf _ hp')) h
theorem lY {cs:List (Str×Addr)} {x:Str}:∀ (ns:List (Str×NameKind)) (acc:List (Str×Addr)),(∃ c,acc.lookup x=some c)->∃ c,(g4 cs ns acc).lookup x=some c
  | [],acc,h=>h
  | (n,k)::r,acc,h=>by
    unfold g4;split
    . refine lY r _ ?_
      rw [List.lookup_cons];cases hx:x==n with
      | true=>exact ⟨_,rfl⟩
      | false=>exact h
    . exact lY r _ h
theorem ju {cs:List (Str×Addr)} {x:Str}:∀ (ns:List (Str×NameKind)) (acc:List (Str×Addr)),(x,NameKind.free)∈ns->∃ c,(g4 cs ns acc).lookup x=some c
  | [],_,h=>by simp at h
  | (n,k)::r,acc,h=>by
    unfold g4;rcases List.mem_cons.mp h with e | h
    . cases e
      simp only [beq_self_eq_true,if_true];exact lY r _ ⟨_,by rw [List.lookup_cons,beq_self_eq_true]⟩
    . split
      . exact ju r _ h
      . exact ju r _ h
theorem eR {env:Env}:∀ {names:List (Str×NameKind)} {x:Str} {k:NameKind},
    (names.map fun (n,k)=>if (k==NameKind.free&&env.scope.kind==.function&&env.kindOf n==some .cell) then (n,NameKind.cell) else (n,k)).lookup x=some k->
    names.lookup x=some k\/names.lookup x=some .free
  | [],_,_,h=>by simp at h
  | (n,k')::r,x,k,h=>by
    have ih:=@eR env r x k;have h:List.lookup x ((if (k'==NameKind.free&&env.scope.kind==.function&&env.kindOf n==some .cell)=true then (n,NameKind.cell) else (n,k'))::(r.map fun (n,k)=>if (k==NameKind.free&&env.scope.kind==.function&&env.kindOf n==some .cell) then (n,NameKind.cell) else (n,k)))=some k:=h;by_cases hc:(k'==NameKind.free&&env.scope.kind==.function&&env.kindOf n==some .cell)=true
    . rw [if_pos hc,List.lookup_cons] at h
      rw [List.lookup_cons];cases hx:x==n with
      | true=>
        have:k'=.free:=by simp at hc;exact hc.1.1
        rw [this];exact .inr rfl
      | false=>rw [hx] at h;exact ih h
    . rw [if_neg hc,List.lookup_cons] at h
      rw [List.lookup_cons];cases hx:x==n with
      | true=>rw [hx] at h;exact .inl h
      | false=>rw [hx] at h;exact ih h
theorem g5 {env:Env} {x:Str}:∀ (ns:List (Str×NameKind)),ns.lookup x=some .free->
    (ns.map fun (n,k)=>if (k==NameKind.free&&env.scope.kind==.function&&env.kindOf n==some .cell) then (n,NameKind.cell) else (n,k)).lookup x≠some .local
  | [],h=>by simp at h
  | (n,k')::r,h=>by
    have ih:=@g5 env x r;show List.lookup x ((if (k'==NameKind.free&&env.scope.kind==.function&&env.kindOf n==some .cell)=true then (n,NameKind.cell) else (n,k'))::(r.map fun (n,k)=>if (k==NameKind.free&&env.scope.kind==.function&&env.kindOf n==some .cell) then (n,NameKind.cell) else (n,k)))≠some .local;rw [List.lookup_cons] at h;by_cases hc:(k'==NameKind.free&&env.scope.kind==.function&&env.kindOf n==some .cell)=true
    . rw [if_pos hc,List.lookup_cons]
      cases hx:x==n with
      | true=>intro z;cases z
      | false=>rw [hx] at h;exact ih h
    . rw [if_neg hc,List.lookup_cons]
      cases hx:x==n with
      | true=>rw [hx] at h;intro z;rw [show some k'=some NameKind.free from h] at z;cases z
      | false=>rw [hx] at h;exact ih h
noncomputable def bv (X:Cx) (N:List Str) (scope:Scope) (cl:List (Str×Addr)) (C:Addr) (s:Shared) (H:Hp) (fp:List Addr):Cx:=
 { X with N:=N,s₀:=s,H₀:=H,env:=compEnvC scope cl C X.env,outer:=X.stack,stack:=X.stack,ex:=fp,fn:=fun _=>false,pn:=[],xe:=fun _ _=>False }
noncomputable def PIfs (X:Cx) (ifs:List Expr) (t:TT):Prop:=
 ∀ (pins:List (Addr×Obj)) (s:Shared) (σ:St) (H:Hp) (Q:Bool->Hp->Prop),Inv X pins σ H s->t σ H Q->
  wpAny (model X.prog X.w) X.A (forIn ifs true fun c r=>if r=true then do let ok <-isTrue c X.env (eval c X.env);pure (ForInStep.yield ok) else pure (ForInStep.yield r)) (TP X pins σ Q) X.xe s
noncomputable def tYes:TT:=fun _ H Q=>Q true H
theorem pifs_nil {X:Cx}:PIfs X [] tYes:=fun _ _ _ H _ I h=>wpAny_tests_nil ⟨H,I,h⟩
theorem pifs_one {X:Cx} {c:Expr} {t:TT} (hc:PT X c t):PIfs X [c] t:=fun pins s σ H Q I h=>wpAny_tests_one (hc pins s σ H Q I h)
structure dQ (X:Cx) (N:List Str) (m:Nat) (ix:List Nat) (scope:Scope):Prop where
 kind:scope.kind=.function
 nocell:∀ y∈scope.names,y.2≠.cell
 names:∀ y∈scope.names,y.2=.local->scope.names.lookup y.1=some .local
 len:N.length=m+ix.length
 frees:∀ y∈scope.names,y.2=.free->X.env.kindOf y.1=some .cell\/X.env.kindOf y.1=some .free
 share:∀ (j:Nat) (i:Nat) (x:Str),ix[j]?=some i->N[m+j]?=some x->X.N[i]?=some x/\scope.names.lookup x=some .free
noncomputable def gt (m:Nat) (ix:List Nat) (σ:St):St:=List.replicate m none++ix.map fun i=>(σ[i]?).join
noncomputable def cLoop (J:It) (g:TG) (tt:TT) (te:TE) (D:Addr) (W:Nat->Nat->St->Hp->Prop) (Q:VK):Prop:=
 ∀ i n σ H,W i n σ H->(J.stop i H/\Q (.ref D) H)\/(J.go i H/\∃ N:St->Hp->Prop,(∀ σ' H',N σ' H'->∃ n',n'<n/\W (i+1) n' σ' H')/\
  ∀ x H',J.yld i H x H'->g x σ H' fun σ2 H2=>tt σ2 H2 fun b H3=>if b=true then te σ2 H3 fun v H4=>∃ ys,H4 D=some (.lst ys)/\ys.length<sizeLine/\N σ2 (upd H4 D (.lst (ys++[v]))) else N σ2 H3)
noncomputable def tComp (wi:TI) (g:TG) (tt:TT) (te:TE) (m:Nat) (ix:List Nat):TE:=fun σ H Q=>wi σ H fun J H1=>∀ D,H1 D=none->
 ∃ W:Nat->Nat->St->Hp->Prop,(∃ n,W 0 n (gt m ix σ) (upd H1 D (.lst [])))/\cLoop J g tt te D W Q
section
variable {X:Cx} {tg elt iter:Expr} {ifs:List Expr} {scope:Scope} {pos:Pos} {N:List Str} {m:Nat} {ix:List Nat} {g:TG} {tt:TT} {te:TE}
theorem nZ {pins:List (Addr×Obj)} {s2:Shared} {σ:St} {H2:Hp} {it:Addr} {fp:List Addr} {tn:Nat->Heap->Prop} {J:It} {Q:VK} {E:Value->Shared->Prop} {RR:Value->Addr->Result->Shared->Prop}
  (I2:Inv X pins σ H2 s2) (T:Turn X.prog X.w X.K tg J fp it tn) (st2:tn 0 s2.heap) (f2:∀ b∈fp,FpOk X pins H2 b) (hc:X.calm=true) (S:dQ X N m ix scope)
  (hin:∀ cl C s H fp,PG (bv X N scope cl C s H fp) tg g/\PIfs (bv X N scope cl C s H fp) ifs tt/\PE (bv X N scope cl C s H fp) elt te)
  (hW:∀ D,H2 D=none->∃ W:Nat->Nat->St->Hp->Prop,(∃ n,W 0 n (gt m ix σ) (upd H2 D (.lst [])))/\cLoop J g tt te D W Q)
  (fin:∀ D C Hf s',Inv X pins σ Hf s'->Q (.ref D) Hf->(∃ mm,s'.heap.Ns C mm)->Hf C=none->C≠X.env.locals->X.s₀.heap.objs.size<=C->(∀ x c,X.env.cells.lookup x=some c->c≠C)->(∀ p∈X.pn++pins,p.1≠C)->RR (.ref D) C (.ok .next) s') :
  wpAny (model X.prog X.w) X.A (newList []) (fun acc s₃=>wpAny (model X.prog X.w) X.A (newFunctionEnv scope X.env.globals (g4 X.env.cells scope.names []) [] X.env.qual none .none (some X.env)) (fun cenv s₄=>
   codeAny (model X.prog X.w) X.A (.compStart (.ListComp elt [⟨tg,iter,ifs,0⟩] scope pos) 0 (.ref it) acc { cenv with scope:=relabel scope X.env }) (RR acc cenv.locals) s₄) E s₃) E s2:=by
 have hcl:∀ p∈scope.names,p.2=.free->∃ c,X.env.cells.lookup p.1=some c:=fun p hp hk=>I2.ok.has _ (S.frees p hp hk);refine wpAny_newObj_type (wpAny_newFunctionEnv S.nocell (by intro y hy;simp at hy) (fun h₁ hns₁ hsb₁=>?_) S.kind);dsimp only at hns₁ hsb₁ ⊢;obtain ⟨W,⟨n0,w0⟩,loop⟩:=hW s2.heap.objs.size I2.fresh;have I3:Inv X pins σ (upd H2 s2.heap.objs.size (.lst [])) { s2 with heap:=s2.heap.push { cls:=.type "list",dict:=none,data:=.seq ([]:List Value).toArray } }:=I2.lnew (t':=s2.toks) (ys:=[]) (its:=[]) .nil (Nat.zero_le _);generalize hs3:({ s2 with heap:=s2.heap.push { cls:=.type "list",dict:=none,data:=.seq ([]:List Value).toArray } }:Shared)=s3 at I3;generalize hH3:upd H2 s2.heap.objs.size (.lst [])=H3 at I3 w0;have e3:s3.heap=s2.heap.push { cls:=.type "list",dict:=none,data:=.seq ([]:List Value).toArray }:=by rw [<-hs3]
 rw [<-e3] at hns₁ hsb₁ ⊢;generalize hC:s3.heap.objs.size=C at hns₁ hsb₁ ⊢;have old2:∀ b o,s2.heap.get? b=some o->s3.heap.get? b=some o:=fun b o e=>by rw [e3];exact Heap.get?_push_of_some _ e
 have old3:∀ b o,s3.heap.get? b=some o->h₁.get? b=some o:=fun b o e=>hsb₁.extBut b o (by rw [<-hC];exact Nat.ne_of_lt (Heap.lt_size e)) (Heap.get?_push_of_some _ e);have fp3:∀ b∈fp,FpOk X pins H3 b:=fun b hb=>by
  obtain ⟨f0,f1,f2',f3,f4,f5⟩:=f2 b hb;refine ⟨?_,f1,f2',f3,f4,f5⟩;obtain ⟨o,ho,_⟩:=T.obj _ _ st2 b hb;rw [<-hH3,aD (Nat.ne_of_lt (Heap.lt_size ho))];exact f0
 have hCL:X.env.locals<C:=by rw [<-hC];exact I3.lt
 have hCs:X.s₀.heap.objs.size<=C:=by rw [<-hC];exact I3.sz
 have hCc:∀ x c,X.env.cells.lookup x=some c->c<C:=fun x c e=>by
  obtain ⟨v,q⟩:=I3.cell x c e;rw [<-hC];exact q.lt
 have hCp:∀ p∈X.pn++pins,p.1<C:=fun p hp=>by rw [<-hC];exact Heap.lt_size (I3.pin p hp).1
 have hCf:∀ b∈fp,b<C:=fun b hb=>by
  obtain ⟨o,ho,_⟩:=T.obj _ _ st2 b hb;rw [<-hC];exact Heap.lt_size (old2 _ _ ho)
 let Y:Cx:=bv X N scope (g4 X.env.cells scope.names []) C s3 H3 fp
 have cells_of:∀ x c,(g4 X.env.cells scope.names []).lookup x=some c->X.env.cells.lookup x=some c:=fun x c e=>by
  rcases oV _ _ hcl e with q | q
  ·simp at q
  ·exact q
 have stkne:∀ b∈fp,b∉frs X.stack:=fun b hb hs=>by
  obtain ⟨_,f1,f2',_⟩:=fp3 b hb;rcases List.mem_cons.mp (I3.stkSub b hs) with e | e
  ·exact f1 e
  ·exact f2' e
 have okY:Y.Ok:=by
  refine ⟨I3.ok.mod,S.kind,I3.ok.glob,I3.ok.blt,by show s3.heap.objs.size<=C;rw [hC];exact Nat.le_refl _,fun x y c h1 h2=>I3.ok.inj x y c (cells_of x c h1) (cells_of y c h2),fun x hx=>?_,fun x c h _=>absurd (show false=true from h) (by simp),I3.ok.hd,I3.ok.frames,.inl rfl,fun b hb=>⟨?_,fun x c e=>?_⟩,fun b o e=>I3.bs b o e,Nat.le_trans I3.ok.bsz I3.sz,fun b o e hb=>?_,stkne,I3.stack,I3.stkFree⟩
  ·have hx':(relabel scope X.env).names.lookup x=some .cell\/(relabel scope X.env).names.lookup x=some .free:=hx;have hf:scope.names.lookup x=some .free:=by
    rcases hx' with q | q
    ·rcases eR q with z | z
     ·exact absurd rfl (S.nocell _ (PySem.mem_of_lookup z))
     ·exact z
    ·rcases eR q with z | z
     ·exact z
     ·exact z
   exact ju _ _ (PySem.mem_of_lookup hf)
  ·exact Nat.ne_of_lt (hCf b hb)
  ·exact (fp3 b hb).2.2.2.2.1 x c (cells_of x c e)
  ·rcases (fp3 b hb).2.2.2.1 with z | z
   ·exact I3.ok.noex b o e z
   ·exact absurd (Nat.lt_of_lt_of_le (Heap.lt_size (I3.ok.bs b o e).1) z) (Nat.lt_irrefl _)
 have IY:Inv Y (X.pn++pins) (gt m ix σ) H3 { s3 with heap:=h₁,toks:=s3.toks+([]:List (Str×Value)).length }:=by
  refine ⟨okY,rfl,I3.bare,Un.kept old3,⟨_,hns₁,fun j x v hx hv hvis=>?_⟩,fun x c e=>?_,I3.hok.fresh (by rw [hC];exact Nat.le_refl _),fun x c e=>I3.freeC x c (cells_of x c e),fun p hp=>?_,I3.hok.kept old3,?_⟩
  ·have hx:N[j]?=some x:=hx;unfold gt at hv;by_cases hj:j<m
   ·rw [List.getElem?_append_left (by simpa using hj),List.getElem?_replicate] at hv;split at hv <;> cases hv
   ·obtain ⟨k,rfl⟩ : ∃ k,j=m+k:=⟨j-m,by omega⟩;rw [List.getElem?_append_right (by simp),List.length_replicate,Nat.add_sub_cancel_left,List.getElem?_map] at hv;cases hi:ix[k]? with
    | none=>rw [hi] at hv;cases hv
    | some i=>
     rw [hi] at hv;have hv':(σ[i]?).join=some v:=by simpa using hv
     have hv'':σ[i]?=some (some v):=by
      cases q:σ[i]? with
      | none=>rw [q] at hv';cases hv'
      | some z=>rw [q] at hv';simp at hv';rw [hv']
     obtain ⟨hXN,hfree⟩:=S.share k i x hi hx;obtain ⟨mm,hn,hl⟩:=I3.loc;have hkx:X.env.kindOf x=some .cell\/X.env.kindOf x=some .free:=S.frees (x,.free) (PySem.mem_of_lookup hfree) rfl;have hvisX:Vis X.env.scope x:=by
      rcases hkx with q | q
      ·exact .inr (.inl q)
      ·exact .inr (.inr q)
     obtain ⟨u,r,l⟩:=hl i x v hXN hv'' hvisX;refine ⟨u,r,.inr ⟨?_,?_⟩⟩
     ·have hvis:Vis (relabel scope X.env) x:=hvis;rcases hvis with q | q | q
      ·rcases eR q with z | z
       ·rw [hfree] at z;cases z
       ·exact absurd q (g5 scope.names hfree)
      ·exact .inl q
      ·exact .inr q
     ·obtain ⟨c,hcc⟩:=ju (cs:=X.env.cells) scope.names [] (PySem.mem_of_lookup hfree);refine ⟨c,hcc,?_⟩;have hXc:=cells_of x c hcc;rcases l with ⟨k1,_⟩ | ⟨_,c',e',z⟩
      ·exfalso;have k1:X.env.kindOf x=some .local:=k1;rcases hkx with q | q <;> rw [k1] at q <;> cases q
      ·rw [hXc] at e';cases e';obtain ⟨o,ho,hd⟩:=z;exact ⟨o,old3 _ _ ho,hd⟩
  ·obtain ⟨v,o,ho,hd⟩:=I3.cell x c (cells_of x c e);exact ⟨v,o,old3 _ _ ho,hd⟩
  ·have hp':p∈X.pn++pins:=by
    have:p∈([]:List (Addr×Obj))++(X.pn++pins):=hp;simpa using this
   obtain ⟨e,nn,ne,nf,d⟩:=I3.pin p hp';refine ⟨old3 _ _ e,nn,Nat.ne_of_lt (hCp p hp'),fun hs=>?_,d⟩;rcases List.mem_cons.mp (I3.stkSub p.1 hs) with z | z
   ·exact ne z
   ·exact nf z
  ·unfold gt;show _=N.length;rw [S.len,List.length_append,List.length_replicate,uk]
 have stat:∀ {H':Hp},(∀ b∈fp,H' b=none)->∀ b∈fp,FpOk Y (X.pn++pins) H' b:=fun hn b hb=>by
  obtain ⟨f0,f1,f2',f3,f4,f5⟩:=fp3 b hb;refine ⟨hn b hb,Nat.ne_of_lt (hCf b hb),stkne b hb,.inl hb,fun x c e=>f4 x c (cells_of x c e),fun p hp=>?_⟩;have hp':p∈X.pn++pins:=by
   have:p∈([]:List (Addr×Obj))++(X.pn++pins):=hp;simpa using this
  exact f5 p hp'
 obtain ⟨hg,ht,he⟩:=hin (g4 X.env.cells scope.names []) C s3 H3 fp;have st4:tn 0 h₁:=T.keep _ _ _ st2 fun b _ o e=>old3 _ _ (old2 _ _ e);have run:∀ s4:Shared,s4={ s3 with heap:=h₁,toks:=s3.toks+([]:List (Str×Value)).length }->
   codeAny (model X.prog X.w) X.A (.compLoop (.ListComp elt [⟨tg,iter,ifs,0⟩] scope pos) 0 (.ref it) (.ref s2.heap.objs.size) (compEnvC scope (g4 X.env.cells scope.names []) C X.env)) (RR (.ref s2.heap.objs.size) C) s4:=by
  rintro s4 rfl;refine oU (fun n s'=>∃ i σ' H',Inv Y (X.pn++pins) σ' H' s'/\tn i s'.heap/\(∀ b∈fp,H' b=none)/\W i n σ' H') ?_ n0 ⟨0,_,_,IY,st4,fun b hb=>(fp3 b hb).1,w0⟩;rintro n s5 ⟨i,σ5,H5,I5,st5,fr5,w5⟩;rcases loop i n σ5 H5 w5 with ⟨stop,qn⟩ | ⟨go,NN,hN,step⟩
  ·refine thn (T.done Y rfl rfl rfl hc i (X.pn++pins) s5 σ5 H5 (fun _ _=>False) I5 (stat fr5) st5 stop) fun r s6 ⟨hr,I6⟩=>?_;subst hr;have J6:Inv X pins σ H5 s6:=by
    refine I3.call' (ch:=fp) ?_ I6.base I6.hok I6.bare fun b hb=>?_
    ·exact I6.os
    ·obtain ⟨f0,f1,f2',f3,f4,f5⟩:=fp3 b hb;exact ⟨f3,f1,f4,f5⟩
   obtain ⟨mm,hn6,_⟩:=I6.loc;exact fin _ C H5 s6 J6 qn ⟨mm,hn6⟩ I6.free (Nat.ne_of_gt hCL) hCs (fun x c e=>Nat.ne_of_lt (hCc x c e)) fun p hp=>Nat.ne_of_lt (hCp p hp)
  ·refine thn (T.item Y rfl rfl rfl hc i (X.pn++pins) s5 σ5 H5 (fun _ _=>False) I5 (stat fr5) st5 go) fun r s6 ⟨u,hr,h6⟩=>?_;subst hr;refine thn h6 fun _ s7 ⟨x,H7,I7,r7,y7,st7,fr7⟩=>?_;have I7':=I7.pinned (stat fr7) (T.obj _ _ st7);refine thn (hg _ s7 σ5 H7 x u _ I7' r7 (step x H7 y7)) fun _ s8 ⟨σ8,H8,I8,q8⟩=>?_;refine thn (ht _ s8 σ8 H8 _ I8 q8) fun ok s9 ⟨H9,I9,q9⟩=>?_;have again:∀ {s':Shared} {σ':St} {H':Hp},Inv Y ((X.pn++pins)++lT fp s7.heap) σ' H' s'->NN σ' H'->∃ m',m'<n/\∃ i σ' H',Inv Y (X.pn++pins) σ' H' s'/\tn i s'.heap/\(∀ b∈fp,H' b=none)/\W i m' σ' H':=fun {s' σ' H'} I' n'=>by
    obtain ⟨m',hm,w'⟩:=hN σ' H' n';refine ⟨m',hm,i+1,σ',H',I'.unpinned,T.keep _ _ _ st7 fun b hb o e=>(I'.pin (b,o) (List.mem_append_right _ (List.mem_append_right _ (gq hb e)))).1,fun b hb=>?_,w'⟩;obtain ⟨o,e,d⟩:=T.obj _ _ st7 b hb;exact (I'.pin (b,o) (List.mem_append_right _ (List.mem_append_right _ (gq hb e)))).2.1
   cases ok with
   | false=>exact again I9 q9
   | true=>
    refine thn (he _ s9 σ8 H9 _ I9 q9) fun y s10 ⟨vy,H10,I10,r10,ys,hD,hz,q10⟩=>?_;exact thn (iC (X:=Y) _ s10 σ8 H10 (.ref s2.heap.objs.size) [vy] _ [y] (fun _ H'=>NN σ8 H') I10 rfl (.cons r10 .nil) ⟨_,ys,vy,rfl,rfl,hD,hz,q10⟩) fun _ s11 ⟨_,H11,I11,_,q11⟩=>again I11 q11
 exact codeAny_compStart_list (run _ (by rw [<-hs3])) (T.self _ 0 _ _ _ st4 (run _ (by rw [<-hs3])))
theorem pe_comp {wi:TI} (hc:X.calm=true) (S:dQ X N m ix scope) (hi:PI X tg iter wi)
  (hin:∀ cl C s H fp,PG (bv X N scope cl C s H fp) tg g/\PIfs (bv X N scope cl C s H fp) ifs tt/\PE (bv X N scope cl C s H fp) elt te)
  (hs:∀ x,foldedSetIterable iter X.env x=pure x:=by intro _;rfl):PE X (.ListComp elt [⟨tg,iter,ifs,0⟩] scope pos) (tComp wi g tt te m ix):=by
 intro pins s σ H Q I h;rw [eval_ListComp];refine wpAny_comprehension_free (use:=none) rfl hs (iP fun p hp hk=>I.ok.has _ (S.frees p hp hk)) S.kind S.names ?_;show wpAny _ _ (eval iter X.env) _ _ _;refine thn (hi pins s σ H _ I h) fun v s1 h1=>thn h1 fun itv s2 h2=>?_;obtain ⟨it,fp,tn,J,H2,rfl,I2,T,st2,f2,hW⟩:=h2;refine nZ (RR:=fun acc C=>compPost (model X.prog X.w) X.A X.xe none (EP X pins σ Q) acc C) I2 T st2 f2 hc S hin hW ?_;intro D C Hf s' J' q hn hCf hCL hCs hCc hCp;obtain ⟨mm,hn⟩:=hn;refine ⟨mm,hn,fun h' hs'=>⟨.ref D,Hf,?_,rfl,q⟩⟩;exact J'.turned (t':=s'.toks) (fun b o hb e=>hs'.extBut b o hb e) hCf hCL (.inr hCs) hCc hCp
theorem ps_comp {wi:TI} {y:Str} {py spos:Pos} {iy:Nat} (hc:X.calm=true) (S:dQ X N m ix scope) (hi:PI X tg iter wi)
  (hin:∀ cl C s H fp,PG (bv X N scope cl C s H fp) tg g/\PIfs (bv X N scope cl C s H fp) ifs tt/\PE (bv X N scope cl C s H fp) elt te)
  (hN:X.N.Nodup) (hiy:X.N[iy]?=some y) (hy:Loc X.env.scope y)
  (hsw:swapsWith (.ListComp elt [⟨tg,iter,ifs,0⟩] scope pos) (some (.Name y py)) spos.line X.env=pure true:=by rfl)
  (hf:X.fn y=true\/X.env.scope.names.lookup y=some .local:=by first | exact .inl rfl | exact .inr rfl | assumption)
  (hs:∀ x,foldedSetIterable iter X.env x=pure x:=by intro _;rfl):PS X (.Assign [.Name y py] (.ListComp elt [⟨tg,iter,ifs,0⟩] scope pos) spos) (tAsg (tComp wi g tt te m ix) (nT iy)):=by
 intro pins s σ H D0 I h;rw [exec_Assign_Name_used _ _ _ _ hsw];refine ub (wpAny_standAt (ub ?_));show wpAny _ X.A (do let _ <-comprehension (.ListComp elt [⟨tg,iter,ifs,0⟩] scope pos) scope X.env _ (newList []) false (eval iter X.env) (some (assign (.Name y py) X.env))) _ _ s;refine ub (wpAny_mono (wpAny_comprehension_free (use:=some (assign (.Name y py) X.env)) (Q:=fun _ s'=>SP X pins D0 .next s') rfl hs (iP fun p hp hk=>I.ok.has _ (S.frees p hp hk)) S.kind S.names ?_) (fun _ s' hq=>uc (uc hq)) fun _ _ e=>e);refine thn (hi pins s σ H _ I h) fun v s1 h1=>thn h1 fun itv s2 h2=>?_;obtain ⟨it,fp,tn,J,H2,rfl,I2,T,st2,f2,hW⟩:=h2;refine nZ (RR:=fun acc C=>compPost (model X.prog X.w) X.A X.xe (some (assign (.Name y py) X.env)) (fun _ s'=>SP X pins D0 .next s') acc C) I2 T st2 f2 hc S hin hW ?_;intro D C Hf s' J' q hn hCf hCL hCs hCc hCp;obtain ⟨mm,hn⟩:=hn;show wpAny _ X.A (assign (.Name y py) X.env (.ref D)) _ _ _;refine wpAny_assign_Name (nS (v:=.ref D) J' hN hiy hy rfl (fun s'' I'' hsb=>?_) hf);obtain ⟨a,hsb,ha⟩:=hsb;have hCa:C≠a:=by
  rcases ha with e | e
  ·rw [e];exact hCL
  ·exact fun z=>hCc y a e z.symm
 refine ⟨mm,hn.sameBut hsb hCa,fun h' hs'=>⟨_,Hf,?_,q⟩⟩;exact I''.turned (t':=s''.toks) (fun b o hb e=>hs'.extBut b o hb e) hCf hCL (.inr hCs) hCc hCp
end
end L2
end
section
namespace L2
open PySem PySem.Spec
theorem aO.updS {H H':Hp} (s:aO H H') {p:Addr} {o:HO}:aO (upd H p o) (upd H' p o):=fun b u e=>by
 by_cases hb:b=p
 ·subst hb;rw [aB] at e ⊢;exact e
 ·rw [aD hb] at e ⊢;exact s _ _ e
theorem aO.new {H:Hp} {p:Addr} {o:HO} (n:H p=none):aO H (upd H p o):=fun b u e=>by rw [aD (aK e n)];exact e
theorem PE.weak {X:Cx} {e:Expr} {t t':TE} (h:PE X e t) (w:∀ σ H Q,t' σ H Q->t σ H Q):PE X e t':=fun pins s σ H Q I q=>h pins s σ H Q I (w σ H Q q)
theorem PT.weak {X:Cx} {e:Expr} {t t':TT} (h:PT X e t) (w:∀ σ H Q,t' σ H Q->t σ H Q):PT X e t':=fun pins s σ H Q I q=>h pins s σ H Q I (w σ H Q q)
theorem PW.weak {X:Cx} {e:Expr} {t t':TT} (h:PW X e t) (w:∀ σ H Q,t' σ H Q->t σ H Q):PW X e t':=fun wh pins s σ H Q I q=>h wh pins s σ H Q I (w σ H Q q)
theorem PA.weak {X:Cx} {es:List Expr} {t t':TA} (h:PA X es t) (w:∀ σ H Q,t' σ H Q->t σ H Q):PA X es t':=fun pos pins s σ H Q I q=>h pos pins s σ H Q I (w σ H Q q)
theorem PS.weak {X:Cx} {e:Stmt} {t t':TS} (h:PS X e t) (w:∀ D σ H,t' D σ H->t D σ H):PS X e t':=fun pins s σ H D I q=>h pins s σ H D I (w D σ H q)
theorem PSs.weak {X:Cx} {e:List Stmt} {t t':TS} (h:PSs X e t) (w:∀ D σ H,t' D σ H->t D σ H):PSs X e t':=fun pins s σ H D I q=>h pins s σ H D I (w D σ H q)
end L2
namespace Ew
open PySem PySem.Spec L2
inductive D where
 | non
 | bl (b:Bool)
 | int (i:Int)
 | str (x:Str)
 | lst (xs:List D)
 | tup (xs:List D)
 | obj (C:Addr) (fs:List (Str×D))
mutual
def Rep (H:Hp):D->V->Prop
 | .non,v=>v=.non
 | .bl b,v=>v=.bl b
 | .int i,v=>v=.int i
 | .str x,v=>v=.str x
 | .lst ds,v=>∃ a vs,v=.ref a/\H a=some (.lst vs)/\aC H ds vs
 | .tup ds,v=>∃ a vs,v=.ref a/\H a=some (.tup vs)/\aC H ds vs
 | .obj C fs,v=>∃ a dx fvs,v=.ref a/\H a=some (.ins C dx fvs)/\eN H fs fvs
def aC (H:Hp):List D->List V->Prop
 | [],vs=>vs=[]
 | d::ds,vs=>∃ v r,vs=v::r/\Rep H d v/\aC H ds r
def eN (H:Hp):List (Str×D)->List (Str×V)->Prop
 | [],vs=>vs=[]
 | fd::fs,vs=>∃ v r,vs=(fd.1,v)::r/\Rep H fd.2 v/\eN H fs r
end
section
variable {H H':Hp}
mutual
theorem Rep.mono (k:aO H H'):∀ (d:D) {v:V},Rep H d v->Rep H' d v
 | .non,_,h=>by unfold Rep at h ⊢;exact h
 | .bl b,_,h=>by unfold Rep at h ⊢;exact h
 | .int i,_,h=>by unfold Rep at h ⊢;exact h
 | .str x,_,h=>by unfold Rep at h ⊢;exact h
 | .lst ds,_,h=>by
  unfold Rep at h ⊢;obtain ⟨a,vs,e,h1,h2⟩:=h;exact ⟨a,vs,e,k _ _ h1,aC.mono k ds h2⟩
 | .tup ds,_,h=>by
  unfold Rep at h ⊢;obtain ⟨a,vs,e,h1,h2⟩:=h;exact ⟨a,vs,e,k _ _ h1,aC.mono k ds h2⟩
 | .obj C fs,_,h=>by
  unfold Rep at h ⊢;obtain ⟨a,dx,vs,e,h1,h2⟩:=h;exact ⟨a,dx,vs,e,k _ _ h1,eN.mono k fs h2⟩
theorem aC.mono (k:aO H H'):∀ (ds:List D) {vs:List V},aC H ds vs->aC H' ds vs
 | [],_,h=>by unfold aC at h ⊢;exact h
 | d::ds,_,h=>by
  unfold aC at h ⊢;obtain ⟨v,r,e,h1,h2⟩:=h;exact ⟨v,r,e,Rep.mono k d h1,aC.mono k ds h2⟩
theorem eN.mono (k:aO H H'):∀ (fs:List (Str×D)) {vs:List (Str×V)},eN H fs vs->eN H' fs vs
  | [],_,h=>by unfold eN at h ⊢;exact h
  | (f,d)::fs,_,h=>by
    unfold eN at h ⊢;obtain ⟨v,r,e,h1,h2⟩:=h;exact ⟨v,r,e,Rep.mono k d h1,eN.mono k fs h2⟩
end
end
theorem aC.nil {H:Hp}:aC H [] []:=by unfold aC;rfl
theorem aC.cons {H:Hp} {d:D} {ds:List D} {v:V} {vs:List V} (h:Rep H d v) (t:aC H ds vs):aC H (d::ds) (v::vs):=by unfold aC;exact ⟨v,vs,rfl,h,t⟩
theorem aC.length {H:Hp}:∀ {ds:List D} {vs:List V},aC H ds vs->vs.length=ds.length
 | [],_,h=>by unfold aC at h;rw [h];rfl
 | d::ds,_,h=>by
  unfold aC at h;obtain ⟨v,r,rfl,_,h2⟩:=h;simp [aC.length h2]
theorem aC.get {H:Hp}:∀ {ds:List D} {vs:List V} {i:Nat} {d:D},aC H ds vs->ds[i]?=some d->∃ v,vs[i]?=some v/\Rep H d v
 | [],_,i,_,_,e=>by simp at e
 | d::ds,_,0,d',h,e=>by
  unfold aC at h;obtain ⟨v,r,rfl,h1,h2⟩:=h;simp at e;subst e;exact ⟨v,rfl,h1⟩
 | d::ds,_,i+1,d',h,e=>by
  unfold aC at h;obtain ⟨v,r,rfl,h1,h2⟩:=h;obtain ⟨u,e1,e2⟩:=aC.get (i:=i) h2 (by simpa using e);exact ⟨u,by simpa using e1,e2⟩
theorem aC.append {H:Hp}:∀ {ds es:List D} {vs us:List V},aC H ds vs->aC H es us->aC H (ds++es) (vs++us)
 | [],_,_,_,h,t=>by unfold aC at h;rw [h];exact t
 | d::ds,_,_,_,h,t=>by
  unfold aC at h;obtain ⟨v,r,rfl,h1,h2⟩:=h;exact .cons h1 (aC.append h2 t)
theorem aC.take {H:Hp}:∀ {ds:List D} {vs:List V} (n:Nat),aC H ds vs->aC H (ds.take n) (vs.take n)
 | [],_,n,h=>by unfold aC at h;rw [h];simp;exact .nil
 | d::ds,_,0,h=>by simp;exact .nil
 | d::ds,_,n+1,h=>by
  unfold aC at h;obtain ⟨v,r,rfl,h1,h2⟩:=h;exact .cons h1 (aC.take n h2)
theorem aC.drop {H:Hp}:∀ {ds:List D} {vs:List V} (n:Nat),aC H ds vs->aC H (ds.drop n) (vs.drop n)
 | [],_,n,h=>by unfold aC at h;rw [h];simp;exact .nil
 | d::ds,_,0,h=>by simpa using h
 | d::ds,_,n+1,h=>by
  unfold aC at h;obtain ⟨v,r,rfl,h1,h2⟩:=h;exact aC.drop n h2
theorem aC.reverse {H:Hp}:∀ {ds:List D} {vs:List V},aC H ds vs->aC H ds.reverse vs.reverse
 | [],_,h=>by unfold aC at h;rw [h];simp;exact .nil
 | d::ds,_,h=>by
  unfold aC at h;obtain ⟨v,r,rfl,h1,h2⟩:=h;rw [List.reverse_cons,List.reverse_cons];exact aC.append (aC.reverse h2) (.cons h1 .nil)
theorem eN.lookup {H:Hp} {f:Str}:∀ {fs:List (Str×D)} {vs:List (Str×V)} {d:D},eN H fs vs->fs.lookup f=some d->∃ v,vs.lookup f=some v/\Rep H d v
  | [],_,_,_,e=>by simp at e
  | (g,d')::fs,_,d,h,e=>by
    unfold eN at h;obtain ⟨v,r,rfl,h1,h2⟩:=h;rw [List.lookup_cons] at e ⊢;cases hx:f==g with
    | true=>rw [hx] at e;simp at e;subst e;exact ⟨v,by simp,h1⟩
    | false=>rw [hx] at e;exact eN.lookup h2 e
theorem eN.none {H:Hp} {f:Str}:∀ {fs:List (Str×D)} {vs:List (Str×V)},eN H fs vs->fs.lookup f=none->vs.lookup f=none
  | [],_,h,e=>by unfold eN at h;rw [h];rfl
  | (g,d')::fs,_,h,e=>by
    unfold eN at h;obtain ⟨v,r,rfl,h1,h2⟩:=h;rw [List.lookup_cons] at e ⊢;cases hx:f==g with
    | true=>rw [hx] at e;simp at e
    | false=>rw [hx] at e;exact eN.none h2 e
mutual
def Own (H:Hp):D->V->List Addr->Prop
 | .non,v,L=>v=.non/\L=[]
 | .bl b,v,L=>v=.bl b/\L=[]
 | .int i,v,L=>v=.int i/\L=[]
 | .str x,v,L=>v=.str x/\L=[]
 | .lst ds,v,L=>∃ a vs M,v=.ref a/\H a=some (.lst vs)/\aF H ds vs M/\a∉M/\L=a::M
 | .tup ds,v,L=>∃ a vs M,v=.ref a/\H a=some (.tup vs)/\aF H ds vs M/\a∉M/\L=a::M
 | .obj C fs,v,L=>∃ a dx fvs M,v=.ref a/\H a=some (.ins C dx fvs)/\H dx=some (.own a)/\aY H fs fvs M/\a∉M/\dx∉M/\L=a::dx::M
def aF (H:Hp):List D->List V->List Addr->Prop
 | [],vs,L=>vs=[]/\L=[]
 | d::ds,vs,L=>∃ v r M N,vs=v::r/\Own H d v M/\aF H ds r N/\(∀ a∈M,a∉N)/\L=M++N
def aY (H:Hp):List (Str×D)->List (Str×V)->List Addr->Prop
 | [],vs,L=>vs=[]/\L=[]
 | fd::fs,vs,L=>∃ v r M N,vs=(fd.1,v)::r/\Own H fd.2 v M/\aY H fs r N/\(∀ a∈M,a∉N)/\L=M++N
end
section
variable {H H':Hp}
mutual
theorem Own.agree:∀ (d:D) {v:V} {L:List Addr},Own H d v L->(∀ a∈L,H' a=H a)->Own H' d v L
 | .non,_,_,h,_=>by unfold Own at h ⊢;exact h
 | .bl b,_,_,h,_=>by unfold Own at h ⊢;exact h
 | .int i,_,_,h,_=>by unfold Own at h ⊢;exact h
 | .str x,_,_,h,_=>by unfold Own at h ⊢;exact h
 | .lst ds,_,_,h,k=>by
  unfold Own at h ⊢;obtain ⟨a,vs,M,e,h1,h2,n,rfl⟩:=h;exact ⟨a,vs,M,e,by rw [k a List.mem_cons_self];exact h1,aF.agree ds h2 fun b hb=>k b (uf _ hb),n,rfl⟩
 | .tup ds,_,_,h,k=>by
  unfold Own at h ⊢;obtain ⟨a,vs,M,e,h1,h2,n,rfl⟩:=h;exact ⟨a,vs,M,e,by rw [k a List.mem_cons_self];exact h1,aF.agree ds h2 fun b hb=>k b (uf _ hb),n,rfl⟩
 | .obj C fs,_,_,h,k=>by
  unfold Own at h ⊢;obtain ⟨a,dx,vs,M,e,h1,h3,h2,n,n2,rfl⟩:=h;exact ⟨a,dx,vs,M,e,by rw [k a List.mem_cons_self];exact h1,by rw [k dx (uf _ List.mem_cons_self)];exact h3,aY.agree fs h2 fun b hb=>k b (uf _ (uf _ hb)),n,n2,rfl⟩
theorem aF.agree:∀ (ds:List D) {vs:List V} {L:List Addr},aF H ds vs L->(∀ a∈L,H' a=H a)->aF H' ds vs L
 | [],_,_,h,_=>by unfold aF at h ⊢;exact h
 | d::ds,_,_,h,k=>by
  unfold aF at h ⊢;obtain ⟨v,r,M,N,e,h1,h2,n,rfl⟩:=h;exact ⟨v,r,M,N,e,Own.agree d h1 fun b hb=>k b (List.mem_append_left _ hb),aF.agree ds h2 fun b hb=>k b (List.mem_append_right _ hb),n,rfl⟩
theorem aY.agree:∀ (fs:List (Str×D)) {vs:List (Str×V)} {L:List Addr},aY H fs vs L->(∀ a∈L,H' a=H a)->aY H' fs vs L
  | [],_,_,h,_=>by unfold aY at h ⊢;exact h
  | (f,d)::fs,_,_,h,k=>by
    unfold aY at h ⊢;obtain ⟨v,r,M,N,e,h1,h2,n,rfl⟩:=h;exact ⟨v,r,M,N,e,Own.agree d h1 fun b hb=>k b (List.mem_append_left _ hb),aY.agree fs h2 fun b hb=>k b (List.mem_append_right _ hb),n,rfl⟩
end
mutual
theorem Own.rep:∀ (d:D) {v:V} {L:List Addr},Own H d v L->(∀ a∈L,H' a=H a)->Rep H' d v
 | .non,_,_,h,_=>by unfold Own at h;unfold Rep;exact h.1
 | .bl b,_,_,h,_=>by unfold Own at h;unfold Rep;exact h.1
 | .int i,_,_,h,_=>by unfold Own at h;unfold Rep;exact h.1
 | .str x,_,_,h,_=>by unfold Own at h;unfold Rep;exact h.1
 | .lst ds,_,_,h,k=>by
  unfold Own at h;unfold Rep;obtain ⟨a,vs,M,e,h1,h2,n,rfl⟩:=h;exact ⟨a,vs,e,by rw [k a List.mem_cons_self];exact h1,aF.rep ds h2 fun b hb=>k b (uf _ hb)⟩
 | .tup ds,_,_,h,k=>by
  unfold Own at h;unfold Rep;obtain ⟨a,vs,M,e,h1,h2,n,rfl⟩:=h;exact ⟨a,vs,e,by rw [k a List.mem_cons_self];exact h1,aF.rep ds h2 fun b hb=>k b (uf _ hb)⟩
 | .obj C fs,_,_,h,k=>by
  unfold Own at h;unfold Rep;obtain ⟨a,dx,vs,M,e,h1,h3,h2,n,n2,rfl⟩:=h;exact ⟨a,dx,vs,e,by rw [k a List.mem_cons_self];exact h1,aY.rep fs h2 fun b hb=>k b (uf _ (uf _ hb))⟩
theorem aF.rep:∀ (ds:List D) {vs:List V} {L:List Addr},aF H ds vs L->(∀ a∈L,H' a=H a)->aC H' ds vs
 | [],_,_,h,_=>by unfold aF at h;unfold aC;exact h.1
 | d::ds,_,_,h,k=>by
  unfold aF at h;unfold aC;obtain ⟨v,r,M,N,e,h1,h2,n,rfl⟩:=h;exact ⟨v,r,e,Own.rep d h1 fun b hb=>k b (List.mem_append_left _ hb),aF.rep ds h2 fun b hb=>k b (List.mem_append_right _ hb)⟩
theorem aY.rep:∀ (fs:List (Str×D)) {vs:List (Str×V)} {L:List Addr},aY H fs vs L->(∀ a∈L,H' a=H a)->eN H' fs vs
  | [],_,_,h,_=>by unfold aY at h;unfold eN;exact h.1
  | (f,d)::fs,_,_,h,k=>by
    unfold aY at h;unfold eN;obtain ⟨v,r,M,N,e,h1,h2,n,rfl⟩:=h;exact ⟨v,r,e,Own.rep d h1 fun b hb=>k b (List.mem_append_left _ hb),aY.rep fs h2 fun b hb=>k b (List.mem_append_right _ hb)⟩
end
mutual
theorem Own.cell:∀ (d:D) {v:V} {L:List Addr},Own H d v L->∀ a∈L,∃ o,H a=some o
 | .non,_,_,h=>by unfold Own at h;rw [h.2];intro a ha;cases ha
 | .bl b,_,_,h=>by unfold Own at h;rw [h.2];intro a ha;cases ha
 | .int i,_,_,h=>by unfold Own at h;rw [h.2];intro a ha;cases ha
 | .str x,_,_,h=>by unfold Own at h;rw [h.2];intro a ha;cases ha
 | .lst ds,_,_,h=>by
  unfold Own at h;obtain ⟨a,vs,M,e,h1,h2,n,rfl⟩:=h;intro b hb;rcases List.mem_cons.mp hb with rfl | hb
  ·exact ⟨_,h1⟩
  ·exact aF.cell ds h2 b hb
 | .tup ds,_,_,h=>by
  unfold Own at h;obtain ⟨a,vs,M,e,h1,h2,n,rfl⟩:=h;intro b hb;rcases List.mem_cons.mp hb with rfl | hb
  ·exact ⟨_,h1⟩
  ·exact aF.cell ds h2 b hb
 | .obj C fs,_,_,h=>by
  unfold Own at h;obtain ⟨a,dx,vs,M,e,h1,h3,h2,n,n2,rfl⟩:=h;intro b hb;rcases List.mem_cons.mp hb with rfl | hb
  ·exact ⟨_,h1⟩
  ·rcases List.mem_cons.mp hb with rfl | hb
   ·exact ⟨_,h3⟩
   ·exact aY.cell fs h2 b hb
theorem aF.cell:∀ (ds:List D) {vs:List V} {L:List Addr},aF H ds vs L->∀ a∈L,∃ o,H a=some o
 | [],_,_,h=>by unfold aF at h;rw [h.2];intro a ha;cases ha
 | d::ds,_,_,h=>by
  unfold aF at h;obtain ⟨v,r,M,N,e,h1,h2,n,rfl⟩:=h;intro b hb;rcases List.mem_append.mp hb with hb | hb
  ·exact Own.cell d h1 b hb
  ·exact aF.cell ds h2 b hb
theorem aY.cell:∀ (fs:List (Str×D)) {vs:List (Str×V)} {L:List Addr},aY H fs vs L->∀ a∈L,∃ o,H a=some o
  | [],_,_,h=>by unfold aY at h;rw [h.2];intro a ha;cases ha
  | (f,d)::fs,_,_,h=>by
    unfold aY at h;obtain ⟨v,r,M,N,e,h1,h2,n,rfl⟩:=h;intro b hb;rcases List.mem_append.mp hb with hb | hb
    . exact Own.cell d h1 b hb
    . exact aY.cell fs h2 b hb
end
mutual
theorem Own.uniq:∀ (d:D) {v:V} {L L':List Addr},Own H d v L->Own H d v L'->L=L'
 | .non,_,_,_,h,h'=>by unfold Own at h h';rw [h.2,h'.2]
 | .bl b,_,_,_,h,h'=>by unfold Own at h h';rw [h.2,h'.2]
 | .int i,_,_,_,h,h'=>by unfold Own at h h';rw [h.2,h'.2]
 | .str x,_,_,_,h,h'=>by unfold Own at h h';rw [h.2,h'.2]
 | .lst ds,_,_,_,h,h'=>by
  unfold Own at h h';obtain ⟨a,vs,M,e,h1,h2,n,rfl⟩:=h;obtain ⟨a',vs',M',e',h1',h2',n',rfl⟩:=h';rw [e] at e';cases e';rw [h1] at h1';cases h1';rw [aF.uniq ds h2 h2']
 | .tup ds,_,_,_,h,h'=>by
  unfold Own at h h';obtain ⟨a,vs,M,e,h1,h2,n,rfl⟩:=h;obtain ⟨a',vs',M',e',h1',h2',n',rfl⟩:=h';rw [e] at e';cases e';rw [h1] at h1';cases h1';rw [aF.uniq ds h2 h2']
 | .obj C fs,_,_,_,h,h'=>by
  unfold Own at h h';obtain ⟨a,dx,vs,M,e,h1,h3,h2,n,n2,rfl⟩:=h;obtain ⟨a',dx',vs',M',e',h1',h3',h2',n',n2',rfl⟩:=h';rw [e] at e';cases e';rw [h1] at h1';cases h1';rw [aY.uniq fs h2 h2']
theorem aF.uniq:∀ (ds:List D) {vs:List V} {L L':List Addr},aF H ds vs L->aF H ds vs L'->L=L'
 | [],_,_,_,h,h'=>by unfold aF at h h';rw [h.2,h'.2]
 | d::ds,_,_,_,h,h'=>by
  unfold aF at h h';obtain ⟨v,r,M,N,e,h1,h2,n,rfl⟩:=h;obtain ⟨v',r',M',N',e',h1',h2',n',rfl⟩:=h';rw [e] at e';cases e';rw [Own.uniq d h1 h1',aF.uniq ds h2 h2']
theorem aY.uniq:∀ (fs:List (Str×D)) {vs:List (Str×V)} {L L':List Addr},aY H fs vs L->aY H fs vs L'->L=L'
  | [],_,_,_,h,h'=>by unfold aY at h h';rw [h.2,h'.2]
  | (f,d)::fs,_,_,_,h,h'=>by
    unfold aY at h h';obtain ⟨v,r,M,N,e,h1,h2,n,rfl⟩:=h;obtain ⟨v',r',M',N',e',h1',h2',n',rfl⟩:=h';rw [e] at e';cases e';rw [Own.uniq d h1 h1',aY.uniq fs h2 h2']
end
theorem Own.mono (k:aO H H') {d:D} {v:V} {L:List Addr} (h:Own H d v L):Own H' d v L:=h.agree d fun a ha=>by
 obtain ⟨o,ho⟩:=Own.cell d h a ha;rw [ho,k _ _ ho]
theorem aF.mono (k:aO H H') {d:List D} {v:List V} {L:List Addr} (h:aF H d v L):aF H' d v L:=h.agree d fun a ha=>by
 obtain ⟨o,ho⟩:=aF.cell d h a ha;rw [ho,k _ _ ho]
theorem aY.mono (k:aO H H') {d:List (Str×D)} {v:List (Str×V)} {L:List Addr} (h:aY H d v L):aY H' d v L:=h.agree d fun a ha=>by
 obtain ⟨o,ho⟩:=aY.cell d h a ha;rw [ho,k _ _ ho]
end
inductive R where
 | sh (d:D)
 | fr (ds:List D)
 | bw (ds:List D)
noncomputable def R.view:R->D
 | .sh d=>d
 | .fr ds=>.lst ds
 | .bw ds=>.lst ds
inductive E where
 | sh (d:D)
 | ow (ds:List D)
 | ob (a C:Addr) (fs:List (Str×D))
 | nw (d:D)
 | on (a:Addr) (d:D)
 | scr (K:Frag) (ns:List Int)
abbrev DSt:=List (Option E)
structure Wd (H Hs Hs' H':Hp):Prop where
 keep:aO H H'
 sub:aO Hs' H'
 base:aO Hs Hs'
 new:∀ a o,Hs' a=some o->Hs a=some o\/H a=none
theorem Wd.refl {H Hs:Hp} (s:aO Hs H):Wd H Hs Hs H:=⟨.refl _,s,.refl _,fun _ _ e=>.inl e⟩
theorem Wd.trans {H Hs H1s H1 H2s H2:Hp} (a:Wd H Hs H1s H1) (b:Wd H1 H1s H2s H2):Wd H Hs H2s H2:=
 ⟨a.keep.trans b.keep,b.sub,a.base.trans b.base,fun c o e=>by
  rcases b.new c o e with q | q
  ·exact a.new c o q
  ·exact .inr (a.keep.free q)⟩
theorem Wd.stay {H Hs Hs' H':Hp} (w:Wd H Hs Hs' H') {a:Addr} {o:HO} (h:H a=some o) (n:Hs a=none):Hs' a=none:=by
 cases e:Hs' a with
 | none=>rfl
 | some u=>
  rcases w.new a u e with q | q
  ·rw [n] at q;cases q
  ·rw [h] at q;cases q
theorem Wd.lay {H Hs:Hp} (s:aO Hs H) {p:Addr} {o:HO} (n:H p=none):Wd H Hs (upd Hs p o) (upd H p o):=
 ⟨.new n,s.updS,.new (s.free n),fun a u e=>by
  by_cases ha:a=p
  ·subst ha;exact .inr n
  ·rw [aD ha] at e;exact .inl e⟩
theorem Wd.fresh {H Hs:Hp} (s:aO Hs H) {p:Addr} {o:HO} (n:H p=none):Wd H Hs Hs (upd H p o):=
 ⟨.new n,s.trans (.new n),.refl _,fun _ _ e=>.inl e⟩
noncomputable def di (H0 Hs H:Hp):R->V->Prop
 | .sh d,v=>Rep Hs d v
 | .fr ds,v=>∃ a vs,v=.ref a/\H0 a=none/\Hs a=none/\H a=some (.lst vs)/\aC Hs ds vs
 | .bw ds,v=>∃ a vs,v=.ref a/\H a=some (.lst vs)/\aC Hs ds vs
noncomputable def View (Hs H:Hp) (d:D) (v:V):Prop:=Rep Hs d v\/∃ ds a vs,d=.lst ds/\v=.ref a/\H a=some (.lst vs)/\aC Hs ds vs
theorem g6 {K:Frag} {H H':Hp} {a:Addr} {xs:List V} (s:aO H H') (h:SqL K H a xs):SqL K H' a xs:=by
 rcases h with (h | ⟨o,h⟩) | h
 ·exact .inl (.inl (s _ _ h))
 ·exact .inl (.inr ⟨o,s _ _ h⟩)
 ·exact .inr h
noncomputable def fX (Hs H:Hp):E->V->Prop
 | .sh d,v=>Rep Hs d v
 | .ow ds,v=>∃ a vs,v=.ref a/\Hs a=none/\H a=some (.lst vs)/\aC Hs ds vs
 | .ob a C fs,v=>v=.ref a/\∃ dx fvs,Hs a=none/\Hs dx=none/\H a=some (.ins C dx fvs)/\H dx=some (.own a)/\eN Hs fs fvs
 | .nw d,v=>∃ L,Own H d v L/\∀ a∈L,Hs a=none
 | .on b d,v=>v=.ref b/\∃ L,Own H d v L/\∀ a∈L,Hs a=none
 | .scr K ns,v=>∃ a,v=.ref a/\SqL K Hs a (ns.map V.int)
noncomputable def fB (Hs H:Hp) (δ:DSt) (σ:St):Prop:=∀ (i:Nat) (e:E),δ[i]?=some (some e)->∃ v,σ[i]?=some (some v)/\fX Hs H e v
section
variable {H0 H Hs Hs' H':Hp}
theorem di.mono (w:Wd H Hs Hs' H') {r:R} {v:V} (h:di H0 Hs H r v):di H0 Hs' H' r v:=by
 cases r with
 | sh d=>exact Rep.mono w.base d h
 | fr ds=>
  obtain ⟨a,vs,e,n,m,h1,h2⟩:=h;exact ⟨a,vs,e,n,w.stay h1 m,w.keep _ _ h1,aC.mono w.base ds h2⟩
 | bw ds=>
  obtain ⟨a,vs,e,h1,h2⟩:=h;exact ⟨a,vs,e,w.keep _ _ h1,aC.mono w.base ds h2⟩
theorem di.older {H1:Hp} (k:aO H0 H1) {r:R} {v:V} (h:di H1 Hs H r v):di H0 Hs H r v:=by
 cases r with
 | sh d=>exact h
 | fr ds=>
  obtain ⟨a,vs,e,n,m,h1,h2⟩:=h;exact ⟨a,vs,e,k.free n,m,h1,h2⟩
 | bw ds=>exact h
theorem di.view {r:R} {v:V} (h:di H0 Hs H r v):View Hs H r.view v:=by
 cases r with
 | sh d=>exact .inl h
 | fr ds=>
  obtain ⟨a,vs,e,n,m,h1,h2⟩:=h;exact .inr ⟨ds,a,vs,rfl,e,h1,h2⟩
 | bw ds=>
  obtain ⟨a,vs,e,h1,h2⟩:=h;exact .inr ⟨ds,a,vs,rfl,e,h1,h2⟩
theorem View.lst (s:aO Hs H) {ds:List D} {v:V} (h:View Hs H (.lst ds) v):∃ a vs,v=.ref a/\H a=some (.lst vs)/\aC Hs ds vs:=by
 rcases h with h | ⟨ds',a,vs,e,e2,h1,h2⟩
 ·unfold Rep at h;obtain ⟨a,vs,e,h1,h2⟩:=h;exact ⟨a,vs,e,s _ _ h1,h2⟩
 ·cases e;exact ⟨a,vs,e2,h1,h2⟩
theorem View.tup (s:aO Hs H) {ds:List D} {v:V} (h:View Hs H (.tup ds) v):∃ a vs,v=.ref a/\H a=some (.tup vs)/\aC Hs ds vs:=by
 rcases h with h | ⟨ds',a,vs,e,e2,h1,h2⟩
 ·unfold Rep at h;obtain ⟨a,vs,e,h1,h2⟩:=h;exact ⟨a,vs,e,s _ _ h1,h2⟩
 ·cases e
theorem View.obj (s:aO Hs H) {C:Addr} {fs:List (Str×D)} {v:V} (h:View Hs H (.obj C fs) v):∃ a dx fvs,v=.ref a/\H a=some (.ins C dx fvs)/\eN Hs fs fvs:=by
 rcases h with h | ⟨ds',a,vs,e,e2,h1,h2⟩
 ·unfold Rep at h;obtain ⟨a,dx,vs,e,h1,h2⟩:=h;exact ⟨a,dx,vs,e,s _ _ h1,h2⟩
 ·cases e
theorem View.int {i:Int} {v:V} (h:View Hs H (.int i) v):v=.int i:=by
 rcases h with h | ⟨_,_,_,e,_⟩
 ·unfold Rep at h;exact h
 ·cases e
theorem View.bl {b:Bool} {v:V} (h:View Hs H (.bl b) v):v=.bl b:=by
 rcases h with h | ⟨_,_,_,e,_⟩
 ·unfold Rep at h;exact h
 ·cases e
theorem View.str {x:Str} {v:V} (h:View Hs H (.str x) v):v=.str x:=by
 rcases h with h | ⟨_,_,_,e,_⟩
 ·unfold Rep at h;exact h
 ·cases e
theorem View.non {v:V} (h:View Hs H .non v):v=.non:=by
 rcases h with h | ⟨_,_,_,e,_⟩
 ·unfold Rep at h;exact h
 ·cases e
theorem fX.mono (w:Wd H Hs Hs' H') {e:E} {v:V} (h:fX Hs H e v):fX Hs' H' e v:=by
 cases e with
 | sh d=>exact Rep.mono w.base d h
 | ow ds=>
  obtain ⟨a,vs,e,m,h1,h2⟩:=h;exact ⟨a,vs,e,w.stay h1 m,w.keep _ _ h1,aC.mono w.base ds h2⟩
 | ob a C fs=>
  obtain ⟨e,dx,fvs,m,m2,h1,h3,h2⟩:=h;exact ⟨e,dx,fvs,w.stay h1 m,w.stay h3 m2,w.keep _ _ h1,w.keep _ _ h3,eN.mono w.base fs h2⟩
 | nw d=>
  obtain ⟨L,h1,h2⟩:=h;exact ⟨L,h1.mono w.keep,fun a ha=>by
   obtain ⟨o,ho⟩:=Own.cell d h1 a ha;exact w.stay ho (h2 a ha)⟩
 | on b d=>
  obtain ⟨e,L,h1,h2⟩:=h;exact ⟨e,L,h1.mono w.keep,fun a ha=>by
   obtain ⟨o,ho⟩:=Own.cell d h1 a ha;exact w.stay ho (h2 a ha)⟩
 | scr K ns=>
  obtain ⟨a,e,h1⟩:=h;exact ⟨a,e,g6 w.base h1⟩
theorem fB.mono (w:Wd H Hs Hs' H') {δ:DSt} {σ:St} (h:fB Hs H δ σ):fB Hs' H' δ σ:=fun i e q=>by
 obtain ⟨v,h1,h2⟩:=h i e q;exact ⟨v,h1,h2.mono w⟩
theorem di.freeze (s:aO Hs H) {r:R} {v:V} (hb:∀ ds,r≠.bw ds) (h:di H0 Hs H r v):∃ uq,Rep uq r.view v/\aO uq H/\aO Hs uq/\∀ a o,uq a=some o->Hs a=some o\/H0 a=none:=by
 cases r with
 | sh d=>exact ⟨Hs,h,s,.refl _,fun _ _ e=>.inl e⟩
 | fr ds=>
  obtain ⟨a,vs,e,n,m,h1,h2⟩:=h;refine ⟨L2.upd Hs a (.lst vs),?_,fun b o q=>?_,.new m,fun b o q=>?_⟩
  ·show Rep _ (.lst ds) v;unfold Rep;exact ⟨a,vs,e,aB,aC.mono (.new m) ds h2⟩
  ·by_cases hb:b=a
   ·subst hb;rw [aB] at q;cases q;exact h1
   ·rw [aD hb] at q;exact s _ _ q
  ·by_cases hb:b=a
   ·subst hb;exact .inr n
   ·rw [aD hb] at q;exact .inl q
 | bw ds=>exact absurd rfl (hb ds)
theorem di.share {H0:Hp} (w:Wd H0 Hs Hs' H') {r:R} {v:V} (hb:∀ ds,r≠.bw ds) (h:di H0 Hs' H' r v):∃ uq,Rep uq r.view v/\Wd H0 Hs uq H':=by
 obtain ⟨uq,h1,h2,h3,h4⟩:=h.freeze w.sub hb;exact ⟨uq,h1,w.keep,h2,w.base.trans h3,fun a o e=>by
  rcases h4 a o e with q | q
  ·exact w.new a o q
  ·exact .inr q⟩
end
abbrev FE:=DSt->Option R
noncomputable def tD (f:FE):TE:=fun σ H Q=>∃ Hs δ r,aO Hs H/\fB Hs H δ σ/\f δ=some r/\∀ v Hs' H',Wd H Hs Hs' H'->di H Hs' H' r v->Q v H'
structure DE (X:Cx) (e:Expr) (f:FE):Prop where
 go:PE X e (tD f)
noncomputable def tDT (f:DSt->Option Bool):TT:=fun σ H Q=>∃ Hs δ b,aO Hs H/\fB Hs H δ σ/\f δ=some b/\∀ Hs' H',Wd H Hs Hs' H'->Q b H'
structure DT (X:Cx) (e:Expr) (f:DSt->Option Bool):Prop where
 go:PT X e (tDT f)
structure DW (X:Cx) (e:Expr) (f:DSt->Option Bool):Prop where
 go:PW X e (tDT f)
noncomputable def dl (H0 Hs H:Hp):List R->List V->Prop
 | [],vs=>vs=[]
 | r::rs,vs=>∃ v t,vs=v::t/\di H0 Hs H r v/\dl H0 Hs H rs t
noncomputable def tDA (f:DSt->Option (List R)):TA:=fun σ H Q=>∃ Hs δ rs,aO Hs H/\fB Hs H δ σ/\f δ=some rs/\∀ vs Hs' H',Wd H Hs Hs' H'->dl H Hs' H' rs vs->Q vs H'
structure DA (X:Cx) (es:List Expr) (f:DSt->Option (List R)):Prop where
 go:PA X es (tDA f)
noncomputable def aa (i:Nat):FE:=fun δ=>match δ[i]? with
 | some (some (.sh d))=>some (.sh d)
 | some (some (.ow ds))=>some (.bw ds)
 | _=>none
noncomputable def ac (d:D):FE:=fun _=>some (.sh d)
noncomputable def ad (o:D->D->Option R) (fa fb:FE):FE:=fun δ=>(fa δ).bind fun a=>(fb δ).bind fun b=>o a.view b.view
noncomputable def dun (o:D->Option R) (fa:FE):FE:=fun δ=>(fa δ).bind fun a=>o a.view
section
variable {X:Cx} {a b c e:Expr} {fa fb fc f:FE} {pos:Pos}
theorem de_var {i:Nat} {x:Str} (h:PE X (.Name x pos) (iY i)):DE X (.Name x pos) (aa i):=.mk <| h.weak fun σ H Q ⟨Hs,δ,r,S,En,e,K⟩=>by
 unfold aa at e;cases q:δ[i]? with
 | none=>rw [q] at e;cases e
 | some o=>
  cases o with
  | none=>rw [q] at e;cases e
  | some en=>
   rw [q] at e;obtain ⟨v,hv,hr⟩:=En i en q;refine ⟨v,hv,K v Hs H (.refl S) ?_⟩;cases en with
   | sh d=>cases e;exact hr
   | ow ds=>
    cases e;obtain ⟨a,vs,e1,_,h1,h2⟩:=hr;exact ⟨a,vs,e1,h1,h2⟩
   | ob a C fs=>cases e
   | nw d=>cases e
   | on b d=>cases e
   | scr K ns=>cases e
theorem oW {d:D} {v:V} (h:PE X e (tC v)) (r:∀ H,Rep H d v):DE X e (ac d):=.mk <| h.weak fun σ H Q ⟨Hs,δ,r',S,En,e,K⟩=>by
 cases e;exact K v Hs H (.refl S) (r Hs)
noncomputable def rD (o:D->D->Option R):R2:=fun x y H Q=>∃ Hs d1 d2 r,aO Hs H/\View Hs H d1 x/\View Hs H d2 y/\o d1 d2=some r/\∀ v Hs' H',Wd H Hs Hs' H'->di H Hs' H' r v->Q v H'
noncomputable def rD1 (o:D->Option R):V->Hp->VK->Prop:=fun x H Q=>∃ Hs d r,aO Hs H/\View Hs H d x/\o d=some r/\∀ v Hs' H',Wd H Hs Hs' H'->di H Hs' H' r v->Q v H'
theorem oX {o:D->D->Option R} {σ:St} {H:Hp} {Q:VK} (h:tD (ad o fa fb) σ H Q):tOp (rD o) (tD fa) (tD fb) σ H Q:=by
 obtain ⟨Hs,δ,r,S,En,e,K⟩:=h;unfold ad at e;cases ea:fa δ with
 | none=>rw [ea] at e;cases e
 | some ra=>
  cases eb:fb δ with
  | none=>rw [ea,eb] at e;cases e
  | some rb=>
   rw [ea,eb] at e;refine ⟨Hs,δ,ra,S,En,ea,fun x uq H1 W1 R1=>⟨uq,δ,rb,W1.sub,En.mono W1,eb,fun y uv H2 W2 R2=>?_⟩⟩;refine ⟨uv,ra.view,rb.view,r,W2.sub,(R1.mono W2).view,R2.view,e,fun v Hs3 H3 W3 R3=>?_⟩;exact K v Hs3 H3 (W1.trans (W2.trans W3)) (R3.older (W1.keep.trans W2.keep))
theorem bi {op:Operator} {o:D->D->Option R} (ho:OpR X (binaryOp op) (rD o)) (ha:DE X a fa) (hb:DE X b fb):DE X (.BinOp a op b pos) (ad o fa fb):=.mk <| (pe_op ho ha.go hb.go).weak fun _ _ _=>oX
theorem de_cmp {op:CmpOp} {o:D->D->Option R} (ho:OpR X (compareOp op) (rD o)) (ha:DE X a fa) (hb:DE X b fb) (hm:behindInMarks op b=false):DE X (.Compare a [op] [b] pos) (ad o fa fb):=.mk <| (pe_cmpR ho ha.go hb.go hm).weak fun _ _ _=>oX
theorem de_ix {o:D->D->Option R} (ho:IxR X (rD o)) (ha:DE X a fa) (hb:DE X b fb) (hs:jr b):DE X (.Subscript a b pos) (ad o fa fb):=.mk <| (pe_ix ho ha.go hb.go hs).weak fun _ _ _=>oX
noncomputable def R.bool:R->Option Bool
 | .sh (.bl b)=>some b
 | _=>none
noncomputable def ai (f:FE):DSt->Option Bool:=fun δ=>(f δ).bind R.bool
theorem oY {σ:St} {H:Hp} {Q:Bool->Hp->Prop} (h:tDT (ai f) σ H Q):tTest (tD f) σ H Q:=by
 obtain ⟨Hs,δ,b,S,En,e,K⟩:=h;unfold ai at e;cases ea:f δ with
 | none=>rw [ea] at e;cases e
 | some ra=>
  rw [ea] at e;refine ⟨Hs,δ,ra,S,En,ea,fun x uq H1 W1 R1=>?_⟩;cases ra with
  | sh d=>
   cases d with
   | bl c=>
    cases e;have R1:Rep uq (.bl b) x:=R1;unfold Rep at R1;exact ⟨b,R1,K uq H1 W1⟩
   | _=>cases e
  | _=>cases e
theorem lZ {op:CmpOp} {o:D->D->Option R} (ho:OpR X (compareOp op) (rD o)) (ha:DE X a fa) (hb:DE X b fb) (hm:behindInMarks op b=false):DT X (.Compare a [op] [b] pos) (ai (ad o fa fb)):=.mk <|
 (pt_cmpR ho ha.go hb.go hm).weak fun σ H Q h=>by
  obtain ⟨Hs,δ,r,S,En,e,K⟩:=oY h;exact oX ⟨Hs,δ,r,S,En,e,K⟩
theorem aT (h:DE X e f) (he:∀ whole,isTrue e X.env whole=(do let v <-whole;standAt e.pos;holding [v] (truthy v)):=by intro _;rfl):DT X e (ai f):=.mk <| (pt_val h.go he).weak fun _ _ _=>oY
noncomputable def cw (o o':D->D->Option R) (fa fb fc:FE):FE:=fun δ=>(fa δ).bind fun a=>(fb δ).bind fun b=>(o a.view b.view).bind fun r=>match r with
 | .sh (.bl true)=>(fc δ).bind fun c=>o' b.view c.view
 | .sh (.bl false)=>some (.sh (.bl false))
 | _=>none
theorem qd {o o':D->D->Option R} {σ:St} {H:Hp} {Q:VK} (h:tD (cw o o' fa fb fc) σ H Q):tChain (rD o) (rD o') (tD fa) (tD fb) (tD fc) σ H Q:=by
 obtain ⟨Hs,δ,r,S,En,e,K⟩:=h;unfold cw at e;cases ea:fa δ with
 | none=>rw [ea] at e;cases e
 | some ra=>
  cases eb:fb δ with
  | none=>rw [ea,eb] at e;cases e
  | some rb=>
   rw [ea,eb] at e;replace e:((o ra.view rb.view).bind fun r=>match r with
    | .sh (.bl true)=>(fc δ).bind fun c=>o' rb.view c.view
    | .sh (.bl false)=>some (R.sh (.bl false))
    | _=>none)=some r:=e
   cases eo:o ra.view rb.view with
   | none=>rw [eo] at e;cases e
   | some ro=>
    rw [eo] at e;refine ⟨Hs,δ,ra,S,En,ea,fun x uq H1 W1 R1=>⟨uq,δ,rb,W1.sub,En.mono W1,eb,fun y uv H2 W2 R2=>?_⟩⟩;refine ⟨uv,ra.view,rb.view,ro,W2.sub,(R1.mono W2).view,R2.view,eo,fun v Hs3 H3 W3 R3=>?_⟩;cases ro with
    | sh d=>
     cases d with
     | bl k=>
      have R3:Rep Hs3 (.bl k) v:=R3;unfold Rep at R3;refine ⟨k,R3,?_⟩;cases k with
      | true=>
       replace e:((fc δ).bind fun c=>o' rb.view c.view)=some r:=e;cases ec:fc δ with
       | none=>rw [ec] at e;cases e
       | some rc=>
        rw [ec] at e;rw [if_pos rfl];have W12:=W1.trans (W2.trans W3);refine ⟨Hs3,δ,rc,W3.sub,En.mono W12,ec,fun z Hs4 H4 W4 R4=>?_⟩;refine ⟨Hs4,rb.view,rc.view,r,W4.sub,((R2.mono W3).mono W4).view,R4.view,e,fun v Hs5 H5 W5 R5=>?_⟩;exact K v Hs5 H5 (W12.trans (W4.trans W5)) (R5.older (W12.keep.trans W4.keep))
      | false=>
       cases e;rw [if_neg Bool.false_ne_true];exact K _ Hs3 H3 (W1.trans (W2.trans W3)) (by show Rep Hs3 (.bl false) _;unfold Rep;rfl)
     | _=>cases e
    | _=>cases e
theorem qe {op op':CmpOp} {o o':D->D->Option R} (ho:OpR X (compareOp op) (rD o)) (ho':OpR X (compareOp op') (rD o')) (ha:DE X a fa) (hb:DE X b fb) (hc:DE X c fc)
 (hm:lastMarks [op,op'] [b,c]=false:=by with_unfolding_all rfl):DE X (.Compare a [op,op'] [b,c] pos) (cw o o' fa fb fc):=.mk <| (pe_chain ho ho' ha.go hb.go hc.go hm).weak fun _ _ _=>qd
theorem jv {op op':CmpOp} {o o':D->D->Option R} (ho:OpR X (compareOp op) (rD o)) (ho':OpR X (compareOp op') (rD o')) (ha:DE X a fa) (hb:DE X b fb) (hc:DE X c fc)
  (hm:lastMarks [op,op'] [b,c]=false:=by with_unfolding_all rfl):DT X (.Compare a [op,op'] [b,c] pos) (ai (cw o o' fa fb fc)):=.mk <|
 (pt_chain ho ho' ha.go hb.go hc.go hm).weak fun σ H Q h=>by
  obtain ⟨Hs,δ,r,S,En,e,K⟩:=oY h;exact qd ⟨Hs,δ,r,S,En,e,K⟩
noncomputable def cx (f g:DSt->Option Bool):DSt->Option Bool:=fun δ=>(f δ).bind fun c=>if c=true then g δ else some false
noncomputable def bg (f g:DSt->Option Bool):DSt->Option Bool:=fun δ=>(f δ).bind fun c=>if c=true then some true else g δ
noncomputable def aP (f:DSt->Option Bool):DSt->Option Bool:=fun δ=>(f δ).map (!·)
variable {tf tg:DSt->Option Bool} {rest:List Expr}
theorem dw_and1 (ha:DT X a tf):DW X (.BoolOp .And [a] pos) tf:=.mk <| pw_and1 ha.go
theorem dw_or1 (ha:DT X a tf):DW X (.BoolOp .Or [a] pos) tf:=.mk <| pw_or1 ha.go
theorem dw_and (ha:DT X a tf) (hb:DW X (.BoolOp .And (b::rest) pos) tg):DW X (.BoolOp .And (a::b::rest) pos) (cx tf tg):=.mk <| (pw_and ha.go hb.go).weak fun σ H Q h=>by
 obtain ⟨Hs,δ,r,S,En,e,K⟩:=h;unfold cx at e;cases ea:tf δ with
 | none=>rw [ea] at e;cases e
 | some k=>
  rw [ea] at e;refine ⟨Hs,δ,k,S,En,ea,fun uq H1 W1=>?_⟩;cases k with
  | true=>
   rw [if_pos rfl];exact ⟨uq,δ,r,W1.sub,En.mono W1,e,fun uv H2 W2=>K uv H2 (W1.trans W2)⟩
  | false=>cases e;rw [if_neg Bool.false_ne_true];exact K uq H1 W1
theorem n4 (ha:DT X a tf) (hb:DW X (.BoolOp .Or (b::rest) pos) tg):DW X (.BoolOp .Or (a::b::rest) pos) (bg tf tg):=.mk <| (pw_or ha.go hb.go).weak fun σ H Q h=>by
 obtain ⟨Hs,δ,r,S,En,e,K⟩:=h;unfold bg at e;cases ea:tf δ with
 | none=>rw [ea] at e;cases e
 | some k=>
  rw [ea] at e;refine ⟨Hs,δ,k,S,En,ea,fun uq H1 W1=>?_⟩;cases k with
  | true=>cases e;rw [if_pos rfl];exact K uq H1 W1
  | false=>
   rw [if_neg Bool.false_ne_true];exact ⟨uq,δ,r,W1.sub,En.mono W1,e,fun uv H2 W2=>K uv H2 (W1.trans W2)⟩
theorem DW.dt (h:DW X e tf):DT X e tf:=.mk <| PW.pt h.go
theorem a9 (ha:DT X a tf):DT X (.UnaryOp .Not a pos) (aP tf):=.mk <| (pt_not ha.go).weak fun σ H Q h=>by
 obtain ⟨Hs,δ,r,S,En,e,K⟩:=h;unfold aP at e;cases ea:tf δ with
 | none=>rw [ea] at e;cases e
 | some k=>
  rw [ea] at e;cases e;exact ⟨Hs,δ,k,S,En,ea,fun uq H1 W1=>K uq H1 W1⟩
noncomputable def g7 (fa fb:FE):FE:=fun δ=>(fa δ).bind fun r=>match r with
 | .sh (.bl true)=>fb δ
 | .sh (.bl false)=>some (.sh (.bl false))
 | _=>none
noncomputable def dor (fa fb:FE):FE:=fun δ=>(fa δ).bind fun r=>match r with
 | .sh (.bl true)=>some (.sh (.bl true))
 | .sh (.bl false)=>fb δ
 | _=>none
noncomputable def dnot (fa:FE):FE:=fun δ=>(fa δ).bind fun r=>match r with
 | .sh (.bl b)=>some (.sh (.bl (!b)))
 | _=>none
theorem shB (H0 Hs H:Hp) (b:Bool):di H0 Hs H (.sh (.bl b)) (.bl b):=by show Rep Hs (.bl b) (.bl b);unfold Rep;rfl
theorem shI (H0 Hs H:Hp) (i:Int):di H0 Hs H (.sh (.int i)) (.int i):=by show Rep Hs (.int i) (.int i);unfold Rep;rfl
theorem shS (H0 Hs H:Hp) (x:Str):di H0 Hs H (.sh (.str x)) (.str x):=by show Rep Hs (.str x) (.str x);unfold Rep;rfl
theorem unB {H0 Hs H:Hp} {b:Bool} {v:V} (h:di H0 Hs H (.sh (.bl b)) v):v=.bl b:=by have h:Rep Hs (.bl b) v:=h;unfold Rep at h;exact h
theorem g8 {op} (h:DE X a fa):DE X (.BoolOp op [a] pos) fa:=.mk <| pe_one h.go
theorem fC (ha:DE X a fa) (hb:DE X (.BoolOp .And (b::rest) pos) fb):DE X (.BoolOp .And (a::b::rest) pos) (g7 fa fb):=.mk <| (pe_and ha.go hb.go).weak fun σ H Q h=>by
 obtain ⟨Hs,δ,r,S,En,e,K⟩:=h;unfold g7 at e;cases ea:fa δ with
 | none=>rw [ea] at e;cases e
 | some k=>
  rw [ea] at e;refine ⟨Hs,δ,k,S,En,ea,fun x uq H1 W1 R1=>?_⟩
  match k,e,R1 with
  | .sh (.bl true),e,R1=>
   refine ⟨true,unB R1,?_⟩;rw [if_pos rfl];exact ⟨uq,δ,r,W1.sub,En.mono W1,e,fun v uv H2 W2 R2=>K v uv H2 (W1.trans W2) (R2.older W1.keep)⟩
  | .sh (.bl false),e,R1=>
   cases e;refine ⟨false,unB R1,?_⟩;rw [if_neg Bool.false_ne_true];exact K _ uq H1 W1 (shB _ _ _ _)
theorem de_not (ha:DE X a fa):DE X (.UnaryOp .Not a pos) (dnot fa):=.mk <| (pe_not ha.go).weak fun σ H Q h=>by
 obtain ⟨Hs,δ,r,S,En,e,K⟩:=h;unfold dnot at e;cases ea:fa δ with
 | none=>rw [ea] at e;cases e
 | some k=>
  rw [ea] at e;refine ⟨Hs,δ,k,S,En,ea,fun x uq H1 W1 R1=>?_⟩
  match k,e,R1 with
  | .sh (.bl k),e,R1=>
   cases e;exact ⟨k,unB R1,K _ uq H1 W1 (shB _ _ _ _)⟩
noncomputable def dif (t:DSt->Option Bool) (fa fb:FE):FE:=fun δ=>(t δ).bind fun k=>if k=true then fa δ else fb δ
theorem qf {c:Expr} (hc:DT X c tf) (ha:DE X a fa) (hb:DE X b fb):DE X (.IfExp c a b pos) (dif tf fa fb):=.mk <| (lR hc.go ha.go hb.go).weak fun σ H Q h=>by
 obtain ⟨Hs,δ,r,S,En,e,K⟩:=h;unfold dif at e;cases ea:tf δ with
 | none=>rw [ea] at e;cases e
 | some k=>
  rw [ea] at e;refine ⟨Hs,δ,k,S,En,ea,fun uq H1 W1=>?_⟩;cases k with
  | true=>
   rw [if_pos rfl];exact ⟨uq,δ,r,W1.sub,En.mono W1,e,fun v uv H2 W2 R2=>K v uv H2 (W1.trans W2) (R2.older W1.keep)⟩
  | false=>
   rw [if_neg Bool.false_ne_true];exact ⟨uq,δ,r,W1.sub,En.mono W1,e,fun v uv H2 W2 R2=>K v uv H2 (W1.trans W2) (R2.older W1.keep)⟩
end
noncomputable def big:Nat:=100000
theorem bS {n:Nat} (h:n<=big):n<sizeLine:=Nat.lt_of_le_of_lt h (by rw [PySem.sizeLine_eq];decide)
noncomputable def noStar:Expr->Bool
 | .Starred _ _=>false
 | _=>true
theorem bY {e:Expr} (h:noStar e=true) {es:List Expr} {env:Env}:starEach (e::es) env=(false,eval e env)::starEach es env:=by
 cases e <;> first | rfl | cases h
noncomputable def af:DSt->Option (List R):=fun _=>some []
noncomputable def ab (fa:FE) (fr:DSt->Option (List R)):DSt->Option (List R):=fun δ=>(fa δ).bind fun r=>(fr δ).bind fun rs=>some (r::rs)
theorem dl.mono {H0 H Hs Hs' H':Hp} (w:Wd H Hs Hs' H'):∀ {rs:List R} {vs:List V},dl H0 Hs H rs vs->dl H0 Hs' H' rs vs
 | [],_,h=>h
 | r::rs,_,⟨v,t,e,h1,h2⟩=>⟨v,t,e,h1.mono w,dl.mono w h2⟩
theorem dl.older {H0 H1 H Hs:Hp} (k:aO H0 H1):∀ {rs:List R} {vs:List V},dl H1 Hs H rs vs->dl H0 Hs H rs vs
 | [],_,h=>h
 | r::rs,_,⟨v,t,e,h1,h2⟩=>⟨v,t,e,h1.older k,dl.older k h2⟩
section
variable {X:Cx} {e:Expr} {es:List Expr} {fa:FE} {fr:DSt->Option (List R)} {pos:Pos}
theorem fE:DA X [] af:=.mk <| cX.weak fun σ H Q ⟨Hs,δ,r,S,En,e,K⟩=>by
 cases e;exact K [] Hs H (.refl S) rfl
theorem aj (ha:DE X e fa) (hr:DA X es fr) (hs:starEach (e::es) X.env=(false,eval e X.env)::starEach es X.env:=by exact bY rfl):DA X (e::es) (ab fa fr):=
 .mk <| (bM ha.go hr.go hs).weak fun σ H Q ⟨Hs,δ,r,S,En,e,K⟩=>by
  unfold ab at e;cases ea:fa δ with
  | none=>rw [ea] at e;cases e
  | some ra=>
   cases eb:fr δ with
   | none=>rw [ea,eb] at e;cases e
   | some rb=>
    rw [ea,eb] at e;cases e;refine ⟨Hs,δ,ra,S,En,ea,fun x uq H1 W1 R1=>⟨uq,δ,rb,W1.sub,En.mono W1,eb,fun vs uv H2 W2 R2=>?_⟩⟩;exact K (x::vs) uv H2 (W1.trans W2) ⟨x,vs,rfl,R1.mono W2,R2.older W1.keep⟩
end
noncomputable def R.isBw:R->Bool
 | .bw _=>true
 | _=>false
theorem dl.freeze {H0 H:Hp}:∀ {rs:List R} {vs:List V} {Hs:Hp},aO Hs H->dl H0 Hs H rs vs->∃ uq,aC uq (rs.map R.view) vs/\aO uq H/\aO Hs uq/\
  ((∀ r∈rs,r.isBw=false)->∀ a o,uq a=some o->Hs a=some o\/H0 a=none):=by
 have one:∀ {r:R} {v:V} {Hs:Hp},aO Hs H->View Hs H r.view v->(r.isBw=false->(∃ d,r=.sh d/\Rep Hs d v)\/∃ a,v=.ref a/\H0 a=none)->
   ∃ uq,Rep uq r.view v/\aO uq H/\aO Hs uq/\(r.isBw=false->∀ a o,uq a=some o->Hs a=some o\/H0 a=none):=by
  intro r v Hs S vw new;rcases vw with h | ⟨ds,a,vs,e1,e2,h1,h2⟩
  ·exact ⟨Hs,h,S,.refl _,fun _ _ _ e=>.inl e⟩
  ·have sub:aO Hs (L2.upd Hs a (.lst vs)):=fun b o q=>by
    by_cases hb:b=a
    ·subst hb;rw [S _ _ q] at h1;cases h1;exact aB
    ·rw [aD hb];exact q
   refine ⟨L2.upd Hs a (.lst vs),?_,fun b o q=>?_,sub,fun hb b o q=>?_⟩
   ·rw [e1];unfold Rep;exact ⟨a,vs,e2,aB,aC.mono sub ds h2⟩
   ·by_cases hb:b=a
    ·subst hb;rw [aB] at q;cases q;exact h1
    ·rw [aD hb] at q;exact S _ _ q
   ·by_cases hba:b=a
    ·subst hba;rcases new hb with ⟨d,ed,hd⟩ | ⟨a',ea,na⟩
     ·subst ed;have e1:d=.lst ds:=e1;subst e1;unfold Rep at hd;obtain ⟨a',vs',e3,h3,_⟩:=hd;rw [e2] at e3;cases e3;rw [S _ _ h3] at h1;cases h1;rw [aB] at q;cases q;exact .inl h3
     ·rw [e2] at ea;cases ea;exact .inr na
    ·rw [aD hba] at q;exact .inl q
 intro rs
 induction rs with
 | nil=>intro vs Hs S h;exact ⟨Hs,by rw [show vs=[] from h];exact .nil,S,.refl _,fun _ _ _ e=>.inl e⟩
 | cons r rs ih=>
  intro vs Hs S h;obtain ⟨v,t,rfl,h1,h2⟩:=h;obtain ⟨uq,q1,q2,q3,q4⟩:=ih S h2;have vw:View uq H r.view v:=by
   rcases h1.view with z | ⟨ds,a,vs,e1,e2,z1,z2⟩
   ·exact .inl (Rep.mono q3 _ z)
   ·exact .inr ⟨ds,a,vs,e1,e2,z1,aC.mono q3 _ z2⟩
  obtain ⟨uv,p1,p2,p3,p4⟩:=one (r:=r) q2 vw fun hb=>by
   cases r with
   | sh d=>exact .inl ⟨d,rfl,Rep.mono q3 _ h1⟩
   | fr ds=>obtain ⟨a,vs,e,n,_⟩:=h1;exact .inr ⟨a,e,n⟩
   | bw ds=>cases hb
  refine ⟨uv,.cons p1 (aC.mono p3 _ q1),p2,q3.trans p3,fun hb a o e=>?_⟩;rcases p4 (hb r List.mem_cons_self) a o e with z | z
  ·exact q4 (fun r' hr'=>hb r' (uf _ hr')) a o z
  ·exact .inr z
noncomputable def dd (rs:List R):Bool:=rs.all fun r=>!r.isBw
theorem iD {rs:List R} (h:dd rs=true):∀ r∈rs,r.isBw=false:=fun r hr=>by
 have:=List.all_eq_true.mp h r hr;simpa using this
noncomputable def bX (fa:DSt->Option (List R)):FE:=fun δ=>(fa δ).bind fun rs=>if dd rs=true/\rs.length<=big then some (.fr (rs.map R.view)) else none
noncomputable def b9 (fa:DSt->Option (List R)):FE:=fun δ=>(fa δ).bind fun rs=>if dd rs=true/\rs.length<=big then some (.sh (.tup (rs.map R.view))) else none
theorem dl.length {H0 Hs H:Hp}:∀ {rs:List R} {vs:List V},dl H0 Hs H rs vs->vs.length=rs.length
 | [],_,h=>by rw [show _=_ from h];rfl
 | r::rs,_,⟨v,t,e,h1,h2⟩=>by rw [e];simp [dl.length h2]
section
variable {X:Cx} {e:Expr} {es:List Expr} {fa:FE} {fr:DSt->Option (List R)} {pos:Pos}
theorem bU (h:DA X es fr):DE X (.List es pos) (bX fr):=.mk <| (pe_lst h.go).weak fun σ H Q ⟨Hs,δ,r,S,En,e,K⟩=>by
 unfold bX at e;cases ea:fr δ with
 | none=>rw [ea] at e;cases e
 | some rs=>
  rw [ea] at e;by_cases hc:dd rs=true/\rs.length<=big
  ·replace e:(if dd rs=true/\rs.length<=big then some (R.fr (rs.map R.view)) else none)=some r:=e;rw [if_pos hc] at e;cases e;refine ⟨Hs,δ,rs,S,En,ea,fun vs uq H1 W1 R1=>⟨?_,fun p hp=>?_⟩⟩
   ·rw [R1.length];exact Nat.le_of_lt (bS hc.2)
   ·obtain ⟨uv,q1,q2,q3,q4⟩:=R1.freeze W1.sub;have W2:Wd H Hs uv H1:=⟨W1.keep,q2,W1.base.trans q3,fun a o e=>by
     rcases q4 (iD hc.1) a o e with z | z
     ·exact W1.new a o z
     ·exact .inr z⟩
    exact K _ uv _ (W2.trans (.fresh q2 hp)) ⟨p,vs,rfl,W1.keep.free hp,q2.free hp,aB,q1⟩
  ·replace e:(if dd rs=true/\rs.length<=big then some (R.fr (rs.map R.view)) else none)=some r:=e;rw [if_neg hc] at e;cases e
theorem cL {x1} (h:DA X es fr):DE X (.Tuple es x1 pos) (b9 fr):=.mk <| (pe_tup h.go).weak fun σ H Q ⟨Hs,δ,r,S,En,e,K⟩=>by
 unfold b9 at e;cases ea:fr δ with
 | none=>rw [ea] at e;cases e
 | some rs=>
  rw [ea] at e;by_cases hc:dd rs=true/\rs.length<=big
  ·replace e:(if dd rs=true/\rs.length<=big then some (R.sh (.tup (rs.map R.view))) else none)=some r:=e;rw [if_pos hc] at e;cases e;refine ⟨Hs,δ,rs,S,En,ea,fun vs uq H1 W1 R1=>⟨?_,fun p hp=>?_⟩⟩
   ·rw [R1.length];exact Nat.le_of_lt (bS hc.2)
   ·obtain ⟨uv,q1,q2,q3,q4⟩:=R1.freeze W1.sub;have W2:Wd H Hs uv H1:=⟨W1.keep,q2,W1.base.trans q3,fun a o e=>by
     rcases q4 (iD hc.1) a o e with z | z
     ·exact W1.new a o z
     ·exact .inr z⟩
    refine K _ (L2.upd uv p (.tup vs)) _ (W2.trans (.lay q2 hp)) ?_;show Rep _ (.tup _) _;unfold Rep;exact ⟨p,vs,rfl,aB,aC.mono (.new (q2.free hp)) _ q1⟩
  ·replace e:(if dd rs=true/\rs.length<=big then some (R.sh (.tup (rs.map R.view))) else none)=some r:=e;rw [if_neg hc] at e;cases e
end
noncomputable def spD (n:Nat) (m:List D->Option D):Sp:=fun vs H Q _=>∃ Hs ds d,ds.length=n/\aO Hs H/\aC Hs ds vs/\m ds=some d/\∀ v Hs' H',Wd H Hs Hs' H'->Rep Hs' d v->Q v H'
noncomputable def spF (n:Nat) (m:List D->Option (List D)):Sp:=fun vs H Q _=>∃ Hs ds d,ds.length=n/\aO Hs H/\aC Hs ds vs/\m ds=some d/\∀ v Hs' H',Wd H Hs Hs' H'->di H Hs' H' (.fr d) v->Q v H'
theorem spD_len {n:Nat} {m:List D->Option D} {vs:List V} {H:Hp} {Q:VK} {E:XK} (h:spD n m vs H Q E):vs.length=n:=by
 obtain ⟨Hs,ds,d,e,_,r,_⟩:=h;rw [r.length,e]
theorem spF_len {n:Nat} {m:List D->Option (List D)} {vs:List V} {H:Hp} {Q:VK} {E:XK} (h:spF n m vs H Q E):vs.length=n:=by
 obtain ⟨Hs,ds,d,e,_,r,_⟩:=h;rw [r.length,e]
noncomputable def D.flat:D->Bool
 | .non=>true
 | .bl _=>true
 | .int _=>true
 | .str _=>true
 | _=>false
theorem Rep.flat {H H':Hp} {d:D} {v:V} (f:d.flat=true) (h:Rep H d v):Rep H' d v:=by
 cases d with
 | lst _=>cases f
 | tup _=>cases f
 | obj _ _=>cases f
 | _=>unfold Rep at h ⊢;exact h
noncomputable def jw (n:Nat) (m:List D->Option D) (rs:List R):Option R:=(m (rs.map R.view)).bind fun d=>if rs.length=n/\(dd rs=true\/d.flat=true) then some (.sh d) else none
noncomputable def g9 (n:Nat) (m:List D->Option (List D)) (rs:List R):Option R:=(m (rs.map R.view)).bind fun d=>if rs.length=n/\dd rs=true then some (.fr d) else none
theorem qg {n:Nat} {m:List D->Option D} {rs:List R} {r:R} {vs:List V} {H Hs uq H1:Hp} {Q:VK} {E:XK} (W1:Wd H Hs uq H1) (R1:dl H uq H1 rs vs) (e:jw n m rs=some r)
  (K:∀ v Hs' H',Wd H Hs Hs' H'->di H Hs' H' r v->Q v H'):spD n m vs H1 Q E:=by
 unfold jw at e;cases em:m (rs.map R.view) with
 | none=>rw [em] at e;cases e
 | some d=>
  rw [em] at e;replace e:(if rs.length=n/\(dd rs=true\/d.flat=true) then some (R.sh d) else none)=some r:=e;by_cases hc:rs.length=n/\(dd rs=true\/d.flat=true)
  ·rw [if_pos hc] at e;cases e;obtain ⟨uv,q1,q2,q3,q4⟩:=R1.freeze W1.sub;refine ⟨uv,_,d,by rw [uk];exact hc.1,q2,q1,em,fun v Hs3 H3 W3 R3=>?_⟩;rcases hc.2 with hb | hf
   ·have W2:Wd H Hs uv H1:=⟨W1.keep,q2,W1.base.trans q3,fun a o e=>by
     rcases q4 (iD hb) a o e with z | z
     ·exact W1.new a o z
     ·exact .inr z⟩
    exact K v Hs3 H3 (W2.trans W3) R3
   ·exact K v uq H3 ⟨W1.keep.trans W3.keep,W1.sub.trans W3.keep,W1.base,W1.new⟩ (Rep.flat hf R3)
  ·rw [if_neg hc] at e;cases e
theorem sp_mcallF {n:Nat} {m:List D->Option (List D)} {rs:List R} {r:R} {vs:List V} {H Hs uq H1:Hp} {Q:VK} {E:XK} (W1:Wd H Hs uq H1) (R1:dl H uq H1 rs vs) (e:g9 n m rs=some r)
  (K:∀ v Hs' H',Wd H Hs Hs' H'->di H Hs' H' r v->Q v H'):spF n m vs H1 Q E:=by
 unfold g9 at e;cases em:m (rs.map R.view) with
 | none=>rw [em] at e;cases e
 | some d=>
  rw [em] at e;replace e:(if rs.length=n/\dd rs=true then some (R.fr d) else none)=some r:=e;by_cases hc:rs.length=n/\dd rs=true
  ·rw [if_pos hc] at e;cases e;obtain ⟨uv,q1,q2,q3,q4⟩:=R1.freeze W1.sub;refine ⟨uv,_,d,by rw [uk];exact hc.1,q2,q1,em,fun v Hs3 H3 W3 R3=>?_⟩;have W2:Wd H Hs uv H1:=⟨W1.keep,q2,W1.base.trans q3,fun a o e=>by
    rcases q4 (iD hc.2) a o e with z | z
    ·exact W1.new a o z
    ·exact .inr z⟩
   exact K v Hs3 H3 (W2.trans W3) (R3.older W1.keep)
  ·rw [if_neg hc] at e;cases e
noncomputable def av (n:Nat) (m:List D->Option D) (fa:DSt->Option (List R)):FE:=fun δ=>(fa δ).bind (jw n m)
noncomputable def dcallF (n:Nat) (m:List D->Option (List D)) (fa:DSt->Option (List R)):FE:=fun δ=>(fa δ).bind (g9 n m)
section
variable {X:Cx} {e o:Expr} {es:List Expr} {fa fo:FE} {fr:DSt->Option (List R)} {n:Nat} {m:List D->Option D} {mF:List D->Option (List D)} {E:XK}
theorem tD_call {σ:St} {H:Hp} {Q:VK} (h:tD (av n m fr) σ H Q):tCall (spD n m) [] E (tDA fr) σ H Q:=by
 obtain ⟨Hs,δ,r,S,En,e,K⟩:=h;unfold av at e;cases ea:fr δ with
 | none=>rw [ea] at e;cases e
 | some rs=>
  rw [ea] at e;refine ⟨Hs,δ,rs,S,En,ea,fun vs uq H1 W1 R1=>?_⟩;show spD n m (vs++[]) H1 Q E;rw [List.append_nil];exact qg W1 R1 e K
noncomputable def bZ (ok:Addr->Bool) (f:Str) (fo:FE):FE:=fun δ=>(fo δ).bind fun r=>match r.view with
 | .obj C fs=>if ok C=true then (fs.lookup f).map .sh else none
 | _=>none
theorem de_fld {ok:Addr->Bool} {f:Str} {pos:Pos} (ho:DE X o fo) (hk:∀ C,ok C=true->Cls X.K C/\NoAttr X.K C f) (hb:attributeBase o f X.env (eval o X.env)=eval o X.env:=by rfl):DE X (.Attribute o f pos) (bZ ok f fo):=.mk <|
 (pe_fld ho.go hb).weak fun σ H Q ⟨Hs,δ,r,S,En,e,K⟩=>by
  unfold bZ at e;cases ea:fo δ with
  | none=>rw [ea] at e;cases e
  | some ra=>
   rw [ea] at e;refine ⟨Hs,δ,ra,S,En,ea,fun x uq H1 W1 R1=>?_⟩;have vw:=R1.view;replace e:(match ra.view with
    | .obj C fs=>if ok C=true then (fs.lookup f).map R.sh else none
    | _=>none)=some r:=e
   cases hv:ra.view with
   | obj C fs=>
    rw [hv] at e vw;replace e:(if ok C=true then (fs.lookup f).map R.sh else none)=some r:=e;by_cases hc:ok C=true
    ·rw [if_pos hc] at e;cases el:fs.lookup f with
     | none=>rw [el] at e;cases e
     | some d=>
      rw [el] at e;cases e;obtain ⟨a,dx,fvs,e1,h1,h2⟩:=vw.obj W1.sub;obtain ⟨v,l1,l2⟩:=h2.lookup el;exact ⟨a,C,dx,fvs,v,e1,h1,(hk C hc).1,(hk C hc).2,l1,K v uq H1 W1 l2⟩
    ·rw [if_neg hc] at e;cases e
   | _=>rw [hv] at e;cases e
noncomputable def bH (C:Addr) (name:Str) (n:Nat) (m:List D->Option D) (fo:FE) (fa:DSt->Option (List R)):FE:=fun δ=>(fo δ).bind fun r=>match r.view with
 | .obj C' fs=>if C'=C/\fs.lookup name=none then (fa δ).bind fun rs=>jw n m (r::rs) else none
 | _=>none
theorem tD_meth {C:Addr} {name:Str} {σ:St} {H:Hp} {Q:VK} (h:tD (bH C name n m fo fr) σ H Q):lV C name (spD n m) [] E (tD fo) (tDA fr) σ H Q:=by
 obtain ⟨Hs,δ,r,S,En,e,K⟩:=h;unfold bH at e;cases ea:fo δ with
 | none=>rw [ea] at e;cases e
 | some ra=>
  rw [ea] at e;refine ⟨Hs,δ,ra,S,En,ea,fun x uq H1 W1 R1=>?_⟩;have vw:=R1.view;replace e:(match ra.view with
   | .obj C' fs=>if C'=C/\fs.lookup name=none then (fr δ).bind fun rs=>jw n m (ra::rs) else none
   | _=>none)=some r:=e
  cases hv:ra.view with
  | obj C' fs=>
   rw [hv] at e vw;replace e:(if C'=C/\fs.lookup name=none then (fr δ).bind fun rs=>jw n m (ra::rs) else none)=some r:=e;by_cases hc:C'=C/\fs.lookup name=none
   ·rw [if_pos hc] at e;obtain ⟨hC,hn⟩:=hc;subst hC;obtain ⟨a,dx,fvs,e1,h1,h2⟩:=vw.obj W1.sub;refine ⟨a,dx,fvs,e1,h1,h2.none hn,?_⟩;cases eb:fr δ with
    | none=>rw [eb] at e;cases e
    | some rs=>
     rw [eb] at e;refine ⟨uq,δ,rs,W1.sub,En.mono W1,eb,fun vs uv H2 W2 R2=>?_⟩;show spD n m (x::(vs++[])) H2 Q E;rw [List.append_nil];exact qg (rs:=ra::rs) (W1.trans W2) (show dl H uv H2 (ra::rs) (x::vs) from ⟨x,vs,rfl,R1.mono W2,R2.older W1.keep⟩) e K
   ·rw [if_neg hc] at e;cases e
  | _=>rw [hv] at e;cases e
noncomputable def dalt (f g:FE):FE:=fun δ=>match f δ with
 | some r=>some r
 | none=>g δ
theorem de_alt {f g:FE} (hf:DE X e f) (hg:DE X e g):DE X e (dalt f g):=.mk <| fun pins s σ H Q I ⟨Hs,δ,r,S,En,e,K⟩=>by
 unfold dalt at e;cases ef:f δ with
 | none=>rw [ef] at e;exact hg.go pins s σ H Q I ⟨Hs,δ,r,S,En,e,K⟩
 | some r'=>rw [ef] at e;cases e;exact hf.go pins s σ H Q I ⟨Hs,δ,r,S,En,ef,K⟩
noncomputable def al (o:D->Option R) (fa:DSt->Option (List R)):FE:=fun δ=>(fa δ).bind fun rs=>match rs with
 | [r]=>o r.view
 | _=>none
noncomputable def rC1 (o:D->Option R):List V->Hp->VK->Prop:=fun xs H Q=>∃ x,xs=[x]/\rD1 o x H Q
theorem qh {o:D->Option R} {σ:St} {H:Hp} {Q:VK} (h:tD (al o fr) σ H Q):tCB (rC1 o) (tDA fr) σ H Q:=by
 obtain ⟨Hs,δ,r,S,En,e,K⟩:=h;unfold al at e;cases ea:fr δ with
 | none=>rw [ea] at e;cases e
 | some rs=>
  rw [ea] at e;refine ⟨Hs,δ,rs,S,En,ea,fun vs uq H1 W1 R1=>?_⟩
  match rs,e,R1 with
  | [r1],e,⟨v,t,ev,q1,q2⟩=>
   have q2:t=[]:=q2;subst q2;exact ⟨v,ev,uq,r1.view,r,W1.sub,q1.view,e,fun u uv H2 W2 R2=>K u uv H2 (W1.trans W2) (R2.older W1.keep)⟩
noncomputable def aZ (o:D->D->Option R) (fa:DSt->Option (List R)):FE:=fun δ=>(fa δ).bind fun rs=>match rs with
 | [r,s]=>o r.view s.view
 | _=>none
noncomputable def rC2 (o:D->D->Option R):List V->Hp->VK->Prop:=fun xs H Q=>∃ x y,xs=[x,y]/\rD o x y H Q
theorem tD_call2 {o:D->D->Option R} {σ:St} {H:Hp} {Q:VK} (h:tD (aZ o fr) σ H Q):tCB (rC2 o) (tDA fr) σ H Q:=by
 obtain ⟨Hs,δ,r,S,En,e,K⟩:=h;unfold aZ at e;cases ea:fr δ with
 | none=>rw [ea] at e;cases e
 | some rs=>
  rw [ea] at e;refine ⟨Hs,δ,rs,S,En,ea,fun vs uq H1 W1 R1=>?_⟩
  match rs,e,R1 with
  | [r1,r2],e,⟨v,t,ev,q1,⟨v2,t2,ev2,p1,p2⟩⟩=>
   have p2:t2=[]:=p2;subst p2;exact ⟨v,v2,by rw [ev,ev2],uq,r1.view,r2.view,r,W1.sub,q1.view,p1.view,e,fun u uv H2 W2 R2=>K u uv H2 (W1.trans W2) (R2.older W1.keep)⟩
end
noncomputable def Fp (H:Hp):E->V->Addr->Prop
 | .sh _,_,_=>False
 | .ow _,v,b=>v=.ref b
 | .ob a C _,_,b=>b=a\/∃ fvs,H a=some (.ins C b fvs)
 | .nw d,v,b=>∃ L,Own H d v L/\b∈L
 | .on _ d,v,b=>∃ L,Own H d v L/\b∈L
 | .scr _ _,_,_=>False
theorem fX.fp {Hs H:Hp} {e:E} {v:V} {b:Addr} (h:fX Hs H e v) (f:Fp H e v b):Hs b=none/\∃ o,H b=some o:=by
 cases e with
 | sh d=>cases f
 | ow ds=>
  obtain ⟨a,vs,e1,m,h1,h2⟩:=h;rw [e1] at f;cases f;exact ⟨m,_,h1⟩
 | ob a C fs=>
  obtain ⟨e1,dx,fvs,m,m2,h1,h3,h2⟩:=h;rcases f with rfl | ⟨fvs',f⟩
  ·exact ⟨m,_,h1⟩
  ·rw [h1] at f;cases f;exact ⟨m2,_,h3⟩
 | nw d=>
  obtain ⟨L,h1,h2⟩:=h;obtain ⟨L',h3,hb⟩:=f;rw [Own.uniq d h3 h1] at hb;exact ⟨h2 b hb,Own.cell d h1 b hb⟩
 | on a d=>
  obtain ⟨_,L,h1,h2⟩:=h;obtain ⟨L',h3,hb⟩:=f;rw [Own.uniq d h3 h1] at hb;exact ⟨h2 b hb,Own.cell d h1 b hb⟩
 | scr K ns=>cases f
theorem fX.agree {Hs H H':Hp} {e:E} {v:V} (h:fX Hs H e v) (k:∀ b,Fp H e v b->H' b=H b):fX Hs H' e v/\∀ b,Fp H' e v b->Fp H e v b:=by
 cases e with
 | sh d=>exact ⟨h,fun b f=>f⟩
 | ow ds=>
  obtain ⟨a,vs,e1,m,h1,h2⟩:=h;exact ⟨⟨a,vs,e1,m,by rw [k a e1];exact h1,h2⟩,fun b f=>f⟩
 | ob a C fs=>
  obtain ⟨e1,dx,fvs,m,m2,h1,h3,h2⟩:=h;have ka:=k a (.inl rfl);exact ⟨⟨e1,dx,fvs,m,m2,by rw [ka];exact h1,by rw [k dx (.inr ⟨fvs,h1⟩)];exact h3,h2⟩,fun b f=>by
   rcases f with f | ⟨fvs',f⟩
   ·exact .inl f
   ·rw [ka] at f;exact .inr ⟨fvs',f⟩⟩
 | nw d=>
  obtain ⟨L,h1,h2⟩:=h;have h1':Own H' d v L:=h1.agree d fun b hb=>k b ⟨L,h1,hb⟩;exact ⟨⟨L,h1',h2⟩,fun b ⟨L',f,hb⟩=>⟨L,h1,by rw [Own.uniq d f h1'] at hb;exact hb⟩⟩
 | on a d=>
  obtain ⟨e1,L,h1,h2⟩:=h;have h1':Own H' d v L:=h1.agree d fun b hb=>k b ⟨L,h1,hb⟩;exact ⟨⟨e1,L,h1',h2⟩,fun b ⟨L',f,hb⟩=>⟨L,h1,by rw [Own.uniq d f h1'] at hb;exact hb⟩⟩
 | scr K ns=>exact ⟨h,fun b f=>f⟩
theorem fX.grow {Hs H H':Hp} {e:E} {v:V} (s:aO H H') (h:fX Hs H e v):fX Hs H' e v/\∀ b,Fp H' e v b->Fp H e v b:=h.agree fun b f=>by
 obtain ⟨_,o,ho⟩:=h.fp f;rw [ho,s _ _ ho]
theorem fX.frame {Hs uq H:Hp} {e:E} {v:V} (s:aO Hs uq) (h:fX Hs H e v) (k:∀ b,Fp H e v b->uq b=none):fX uq H e v:=by
 cases e with
 | sh d=>exact Rep.mono s d h
 | ow ds=>
  obtain ⟨a,vs,e1,m,h1,h2⟩:=h;exact ⟨a,vs,e1,k a e1,h1,aC.mono s _ h2⟩
 | ob a C fs=>
  obtain ⟨e1,dx,fvs,m,m2,h1,h3,h2⟩:=h;exact ⟨e1,dx,fvs,k a (.inl rfl),k dx (.inr ⟨fvs,h1⟩),h1,h3,eN.mono s _ h2⟩
 | nw d=>
  obtain ⟨L,h1,h2⟩:=h;exact ⟨L,h1,fun b hb=>k b ⟨L,h1,hb⟩⟩
 | on a d=>
  obtain ⟨e1,L,h1,h2⟩:=h;exact ⟨e1,L,h1,fun b hb=>k b ⟨L,h1,hb⟩⟩
 | scr K ns=>
  obtain ⟨a,e,h1⟩:=h;exact ⟨a,e,g6 s h1⟩
structure StR (H0 Hs H:Hp) (δ:DSt) (σ:St):Prop where
 ent:fB Hs H δ σ
 len:σ.length=δ.length
 new:∀ (i:Nat) (e:E) (v:V) (b:Addr),δ[i]?=some (some e)->σ[i]?=some (some v)->Fp H e v b->H0 b=none
 dis:∀ (i j:Nat) (e e':E) (v v':V) (b:Addr),i≠j->δ[i]?=some (some e)->δ[j]?=some (some e')->σ[i]?=some (some v)->σ[j]?=some (some v')->Fp H e v b->Fp H e' v' b->False
theorem StR.rep {H0 Hs H:Hp} {δ:DSt} {σ:St} (h:StR H0 Hs H δ σ) {i:Nat} {e:E} {v:V} (q:δ[i]?=some (some e)) (hv:σ[i]?=some (some v)):fX Hs H e v:=by
 obtain ⟨v',h1,h2⟩:=h.ent i e q;rw [hv] at h1;cases h1;exact h2
theorem StR.mono {H0 H Hs Hs' H':Hp} {δ:DSt} {σ:St} (w:Wd H Hs Hs' H') (h:StR H0 Hs H δ σ):StR H0 Hs' H' δ σ:=by
 have g:∀ (i:Nat) (e:E) (v:V) (b:Addr),δ[i]?=some (some e)->σ[i]?=some (some v)->Fp H' e v b->Fp H e v b:=fun i e v b q1 q2 f=>((h.rep q1 q2).grow w.keep).2 b f;exact ⟨h.ent.mono w,h.len,fun i e v b q1 q2 f=>h.new i e v b q1 q2 (g i e v b q1 q2 f),fun i j e e' v v' b n q1 q2 q3 q4 f f'=>h.dis i j e e' v v' b n q1 q2 q3 q4 (g i e v b q1 q3 f) (g j e' v' b q2 q4 f')⟩
theorem get_set {α:Type} {l:List α} {i j:Nat} {x y:α} (h:(l.set i x)[j]?=some y):(j=i/\y=x/\i<l.length)\/(j≠i/\l[j]?=some y):=by
 by_cases hj:j=i
 ·subst hj;have hl:j<l.length:=by
   have:=(List.getElem?_eq_some_iff.mp h).1;simpa using this
  rw [List.getElem?_set_self hl] at h;exact .inl ⟨rfl,(Option.some.inj h).symm,hl⟩
 ·rw [List.getElem?_set_ne (Ne.symm hj)] at h;exact .inr ⟨hj,h⟩
theorem StR.upG {H0 uw Hs H Hs' H':Hp} {δ:DSt} {σ:St} {i:Nat} {e e':E} {v v':V} (W:Wd H0 uw Hs H) (S:StR H0 Hs H δ σ) (q:δ[i]?=some (some e)) (hv:σ[i]?=some (some v))
  (keep:∀ b o,¬Fp H e v b->H b=some o->H' b=some o) (sub:aO Hs' H') (base:aO Hs Hs') (new:∀ a o,Hs' a=some o->Hs a=some o\/H a=none)
  (r:fX Hs' H' e' v') (own:∀ b,Fp H' e' v' b->Fp H e v b\/H b=none) :
  Wd H0 uw Hs' H'/\StR H0 Hs' H' (δ.set i (some e')) (σ.set i (some v')):=by
 have hi:i<δ.length:=(List.getElem?_eq_some_iff.mp q).1;have ag:∀ (j:Nat) (en:E) (u:V),j≠i->δ[j]?=some (some en)->σ[j]?=some (some u)->fX Hs' H' en u/\∀ b,Fp H' en u b->Fp H en u b:=fun j en u hj q1 q2=>by
  have r0:=S.rep q1 q2;obtain ⟨r1,f1⟩:=r0.agree (H':=H') fun b f=>by
   obtain ⟨_,o,ho⟩:=r0.fp f;rw [ho];exact keep b o (fun z=>S.dis j i en e u v b hj q1 q q2 hv f z) ho
  refine ⟨r1.frame base fun b f=>?_,f1⟩;obtain ⟨m,o,ho⟩:=r0.fp (f1 b f);cases z:Hs' b with
  | none=>rfl
  | some o'=>
   rcases new b o' z with z' | z'
   ·rw [m] at z';cases z'
   ·rw [ho] at z';cases z'
 refine ⟨⟨fun b o hb=>?_,sub,W.base.trans base,fun a o ha=>?_⟩,⟨fun j en hj=>?_,by simpa using S.len,fun j en u b hj hu f=>?_,fun j k e1 e2 u1 u2 b hjk h1 h2 g1 g2 f1 f2=>?_⟩⟩
 ·refine keep b o (fun z=>?_) (W.keep _ _ hb);rw [S.new i e v b q hv z] at hb;cases hb
 ·rcases new a o ha with z | z
  ·exact W.new a o z
  ·exact .inr (W.keep.free z)
 ·rcases get_set hj with ⟨rfl,e1,_⟩ | ⟨vj,q1⟩
  ·cases e1;exact ⟨v',List.getElem?_set_self (by rw [S.len];exact hi),r⟩
  ·obtain ⟨u,hu,_⟩:=S.ent j en q1;exact ⟨u,by rw [List.getElem?_set_ne (Ne.symm vj)];exact hu,(ag j en u vj q1 hu).1⟩
 ·rcases get_set hj with ⟨rfl,e1,_⟩ | ⟨vj,q1⟩
  ·cases e1;rw [List.getElem?_set_self (by rw [S.len];exact hi)] at hu;cases hu;rcases own b f with z | z
   ·exact S.new _ e v b q hv z
   ·exact W.keep.free z
  ·rw [List.getElem?_set_ne (Ne.symm vj)] at hu;exact S.new j en u b q1 hu ((ag j en u vj q1 hu).2 b f)
 ·have other:∀ (j:Nat) (en:E) (u:V),j≠i->δ[j]?=some (some en)->σ[j]?=some (some u)->Fp H' en u b->Fp H' e' v' b->False:=fun j en u vj q1 q2 f f'=>by
   have f0:=(ag j en u vj q1 q2).2 b f;rcases own b f' with z | z
   ·exact S.dis j i en e u v b vj q1 q q2 hv f0 z
   ·obtain ⟨_,o,ho⟩:=(S.rep q1 q2).fp f0;rw [ho] at z;cases z
  rcases get_set h1 with ⟨rfl,z1,_⟩ | ⟨vj,q1⟩
  ·rcases get_set h2 with ⟨rfl,z2,_⟩ | ⟨hne2,q2⟩
   ·exact hjk rfl
   ·cases z1;rw [List.getElem?_set_self (by rw [S.len];exact hi)] at g1;rw [List.getElem?_set_ne (Ne.symm hne2)] at g2;cases g1;exact other k e2 u2 hne2 q2 g2 f2 f1
  ·rw [List.getElem?_set_ne (Ne.symm vj)] at g1;rcases get_set h2 with ⟨rfl,z2,_⟩ | ⟨hne2,q2⟩
   ·cases z2;rw [List.getElem?_set_self (by rw [S.len];exact hi)] at g2;cases g2;exact other j e1 u1 vj q1 g1 f1 f2
   ·rw [List.getElem?_set_ne (Ne.symm hne2)] at g2;exact S.dis j k e1 e2 u1 u2 b hjk q1 q2 g1 g2 ((ag j e1 u1 vj q1 g1).2 b f1) ((ag k e2 u2 hne2 q2 g2).2 b f2)
theorem StR.put {H0 Hs H Hs' H':Hp} {δ:DSt} {σ:St} {i:Nat} {e':E} {v':V} (k:aO H0 H) (S:StR H0 Hs H δ σ) (w:Wd H Hs Hs' H') (r:fX Hs' H' e' v') (own:∀ b,Fp H' e' v' b->H b=none) :
  StR H0 Hs' H' (δ.set i (some e')) (σ.set i (some v')):=by
 have S':=S.mono w;have back:∀ (j:Nat) (en:E) (u:V) (b:Addr),δ[j]?=some (some en)->σ[j]?=some (some u)->Fp H' en u b->∃ o,H b=some o:=fun j en u b q1 q2 f=>((S.rep q1 q2).fp (((S.rep q1 q2).grow w.keep).2 b f)).2;refine ⟨fun j en hj=>?_,by simpa using S.len,fun j en u b hj hu f=>?_,fun j k e1 e2 u1 u2 b hjk h1 h2 g1 g2 f1 f2=>?_⟩
 ·rcases get_set hj with ⟨rfl,e1,hl⟩ | ⟨vj,q1⟩
  ·cases e1;exact ⟨v',List.getElem?_set_self (by rw [S.len];exact hl),r⟩
  ·obtain ⟨u,hu,hr⟩:=S'.ent j en q1;exact ⟨u,by rw [List.getElem?_set_ne (Ne.symm vj)];exact hu,hr⟩
 ·rcases get_set hj with ⟨rfl,e1,hl⟩ | ⟨vj,q1⟩
  ·cases e1;rw [List.getElem?_set_self (by rw [S.len];exact hl)] at hu;cases hu;exact k.free (own b f)
  ·rw [List.getElem?_set_ne (Ne.symm vj)] at hu;exact S'.new j en u b q1 hu f
 ·have other:∀ (j:Nat) (en:E) (u:V),δ[j]?=some (some en)->σ[j]?=some (some u)->Fp H' en u b->Fp H' e' v' b->False:=fun j en u q1 q2 f f'=>by
   obtain ⟨o,ho⟩:=back j en u b q1 q2 f;rw [own b f'] at ho;cases ho
  rcases get_set h1 with ⟨rfl,z1,hl⟩ | ⟨vj,q1⟩
  ·rcases get_set h2 with ⟨rfl,z2,_⟩ | ⟨hne2,q2⟩
   ·exact hjk rfl
   ·cases z1;rw [List.getElem?_set_self (by rw [S.len];exact hl)] at g1;rw [List.getElem?_set_ne (Ne.symm hne2)] at g2;cases g1;exact other k e2 u2 q2 g2 f2 f1
  ·rw [List.getElem?_set_ne (Ne.symm vj)] at g1;rcases get_set h2 with ⟨rfl,z2,hl⟩ | ⟨hne2,q2⟩
   ·cases z2;rw [List.getElem?_set_self (by rw [S.len];exact hl)] at g2;cases g2;exact other j e1 u1 q1 g1 f1 f2
   ·rw [List.getElem?_set_ne (Ne.symm hne2)] at g2;exact S'.dis j k e1 e2 u1 u2 b hjk q1 q2 g1 g2 f1 f2
theorem set_same {α:Type} {l:List α} {i:Nat} {x:α} (h:l[i]?=some x):l.set i x=l:=by
 apply List.ext_getElem?;intro j;by_cases hj:i=j
 ·subst hj;rw [List.getElem?_set_self (List.getElem?_eq_some_iff.mp h).1,h]
 ·rw [List.getElem?_set_ne hj]
inductive Res where
 | nx (δ:DSt)
 | rt (r:R)
 | bk (δ:DSt)
 | ct (δ:DSt)
 | rn (d:D)
noncomputable def Post (H0 uw:Hp) (D:Ends):Res->Prop
 | .nx δ=>∀ σ Hs H,Wd H0 uw Hs H->StR H0 Hs H δ σ->D.nx σ H
 | .rt r=>∀ v Hs H,Wd H0 uw Hs H->di H0 Hs H r v->D.rt v H
 | .bk δ=>∀ σ Hs H,Wd H0 uw Hs H->StR H0 Hs H δ σ->D.bk σ H
 | .ct δ=>∀ σ Hs H,Wd H0 uw Hs H->StR H0 Hs H δ σ->D.ct σ H
 | .rn d=>∀ v Hs H L,Wd H0 uw Hs H->Own H d v L->(∀ a∈L,H0 a=none/\Hs a=none)->D.rt v H
abbrev FS:=DSt->Option Res
noncomputable def tS (H0 uw:Hp) (F:FS):TS:=fun D σ H=>∃ Hs δ res,Wd H0 uw Hs H/\StR H0 Hs H δ σ/\F δ=some res/\Post H0 uw D res
structure DS (X:Cx) (st:Stmt) (F:FS):Prop where
 go:∀ H0 uw,PS X st (tS H0 uw F)
structure DSs (X:Cx) (st:List Stmt) (F:FS):Prop where
 go:∀ H0 uw,PSs X st (tS H0 uw F)
noncomputable def Res.thn (G:FS):Res->Option Res
 | .nx δ=>G δ
 | .rt r=>some (.rt r)
 | .bk δ=>some (.bk δ)
 | .ct δ=>some (.ct δ)
 | .rn d=>some (.rn d)
noncomputable def az:FS:=fun δ=>some (.nx δ)
noncomputable def ar (F G:FS):FS:=fun δ=>(F δ).bind (Res.thn G)
section
variable {X:Cx} {st:Stmt} {rest:List Stmt} {F G:FS} {e:Expr} {f:FE} {pos:Pos}
theorem dss_nil:DSs X [] az:=.mk fun H0 uw=>pss_nil.weak fun D σ H ⟨Hs,δ,res,W,S,e,P⟩=>by
 cases e;exact P σ Hs H W S
theorem ah (h1:DS X st F) (h2:DSs X rest G):DSs X (st::rest) (ar F G):=.mk fun H0 uw=>(pss_cons (h1.go H0 uw) (h2.go H0 uw)).weak fun D σ H ⟨Hs,δ,res,W,S,e,P⟩=>by
 unfold ar at e;cases ef:F δ with
 | none=>rw [ef] at e;cases e
 | some r1=>
  rw [ef] at e;refine ⟨Hs,δ,r1,W,S,ef,?_⟩;cases r1 with
  | nx δ1=>exact fun σ1 uq H1 W1 S1=>⟨uq,δ1,res,W1,S1,e,P⟩
  | rt r=>cases e;exact P
  | bk δ1=>cases e;exact P
  | ct δ1=>cases e;exact P
  | rn d=>cases e;exact P
theorem ak (h1:DS X st F):DSs X [st] F:=.mk fun H0 uw=>pss_one (h1.go H0 uw)
theorem jx:DS X st (fun _=>none):=.mk fun H0 uw pins s σ H D I ⟨Hs,δ,res,W,S,e,P⟩=>by cases e
noncomputable def sif (t:DSt->Option Bool) (F G:FS):FS:=fun δ=>(t δ).bind fun b=>if b=true then F δ else G δ
theorem ds_if {c:Expr} {a b:List Stmt} {t:DSt->Option Bool} (hc:DT X c t) (ha:DSs X a F) (hb:DSs X b G):DS X (.If c a b pos) (sif t F G):=.mk fun H0 uw=>(ps_if hc.go (ha.go H0 uw) (hb.go H0 uw)).weak fun D σ H ⟨Hs,δ,res,W,S,e,P⟩=>by
 unfold sif at e;cases et:t δ with
 | none=>rw [et] at e;cases e
 | some k=>
  rw [et] at e;refine ⟨Hs,δ,k,W.sub,S.ent,et,fun uq H1 W1=>?_⟩;cases k with
  | true=>rw [if_pos rfl];exact ⟨uq,δ,res,W.trans W1,S.mono W1,e,P⟩
  | false=>rw [if_neg Bool.false_ne_true];exact ⟨uq,δ,res,W.trans W1,S.mono W1,e,P⟩
noncomputable def aG (f:FE):FS:=fun δ=>(f δ).bind fun r=>if r.isBw=true then none else some (.rt r)
theorem ay (h:DE X e f):DS X (.Return (some e) pos) (aG f):=.mk fun H0 uw=>(oN h.go).weak fun D σ H ⟨Hs,δ,res,W,S,e,P⟩=>by
 unfold aG at e;cases et:f δ with
 | none=>rw [et] at e;cases e
 | some r=>
  rw [et] at e;by_cases hb:r.isBw=true
  ·rw [show (some r).bind _=(if r.isBw=true then none else some (Res.rt r)) from rfl,if_pos hb] at e;cases e
  ·rw [show (some r).bind _=(if r.isBw=true then none else some (Res.rt r)) from rfl,if_neg hb] at e;cases e;exact ⟨Hs,δ,r,W.sub,S.ent,et,fun v uq H1 W1 R1=>P v uq H1 (W.trans W1) (R1.older W.keep)⟩
noncomputable def jy (i:Nat):FS:=fun δ=>match δ[i]? with
 | some (some (.ow ds))=>some (.rt (.fr ds))
 | some (some (.sh d))=>some (.rt (.sh d))
 | some (some (.nw d))=>some (.rn d)
 | _=>none
theorem lC {i:Nat} {x:Str} {p:Pos} (h:PE X (.Name x p) (iY i)):DS X (.Return (some (.Name x p)) pos) (jy i):=.mk fun H0 uw=>(oN h).weak fun D σ H ⟨Hs,δ,res,W,S,e,P⟩=>by
 unfold jy at e;cases q:δ[i]? with
 | none=>rw [q] at e;cases e
 | some o=>
  cases o with
  | none=>rw [q] at e;cases e
  | some en=>
   rw [q] at e;obtain ⟨v,hv,hr⟩:=S.ent i en q;refine ⟨v,hv,?_⟩;cases en with
   | sh d=>cases e;exact P v Hs H W hr
   | ow ds=>
    cases e;obtain ⟨a,vs,e1,m,h1,h2⟩:=hr;subst e1;exact P _ Hs H W ⟨a,vs,rfl,S.new i _ _ a q hv rfl,m,h1,h2⟩
   | ob a C fs=>cases e
   | nw d=>
    cases e;obtain ⟨L,h1,h2⟩:=hr;exact P _ Hs H L W h1 fun b hb=>⟨S.new i _ _ b q hv ⟨L,h1,hb⟩,h2 b hb⟩
   | on b d=>cases e
   | scr K ns=>cases e
noncomputable def frz (i:Nat) (δ:DSt):DSt:=match δ[i]? with
 | some (some (.ow ds))=>δ.set i (some (.sh (.lst ds)))
 | some (some (.nw d))=>δ.set i (some (.sh d))
 | _=>δ
theorem Own.share {Hs H:Hp} {d:D} {v:V} {L:List Addr} (s:aO Hs H) (h:Own H d v L) (n:∀ a∈L,Hs a=none) :
  ∃ uq,Rep uq d v/\aO uq H/\aO Hs uq/\∀ a o,uq a=some o->Hs a=some o\/a∈L:=by
 classical
 refine ⟨fun a=>if a∈L then H a else Hs a,h.rep d fun a ha=>by simp [ha],fun a o e=>?_,fun a o e=>?_,fun a o e=>?_⟩
 ·by_cases ha:a∈L
  ·simpa [ha] using e
  ·simp [ha] at e;exact s _ _ e
 ·by_cases ha:a∈L
  ·rw [n a ha] at e;cases e
  ·simp [ha];exact e
 ·by_cases ha:a∈L
  ·exact .inr ha
  ·simp [ha] at e;exact .inl e
theorem StR.frz1 {H0 uw Hs uq H:Hp} {δ:DSt} {σ:St} {i:Nat} {e:E} {v:V} {d:D} (W:Wd H0 uw Hs H) (S:StR H0 Hs H δ σ) (q:δ[i]?=some (some e)) (hv:σ[i]?=some (some v))
  (r:Rep uq d v) (sub:aO uq H) (base:aO Hs uq) (new:∀ a o,uq a=some o->Hs a=some o\/Fp H e v a):Wd H0 uw uq H/\StR H0 uq H (δ.set i (some (.sh d))) σ:=by
 have hi:i<δ.length:=(List.getElem?_eq_some_iff.mp q).1;have fr:∀ (j:Nat) (en:E) (u:V),j≠i->δ[j]?=some (some en)->σ[j]?=some (some u)->fX uq H en u:=fun j en u hj q1 q2=>by
  have r0:=S.rep q1 q2;refine r0.frame base fun b f=>?_;obtain ⟨m,_⟩:=r0.fp f;cases z:uq b with
  | none=>rfl
  | some o=>
   rcases new b o z with z' | z'
   ·rw [m] at z';cases z'
   ·exact (S.dis j i en e u v b hj q1 q q2 hv f z').elim
 refine ⟨⟨W.keep,sub,W.base.trans base,fun a o ha=>?_⟩,⟨fun j en hj=>?_,by simpa using S.len,fun j en u b hj hu f=>?_,fun j k e1 e2 u1 u2 b hjk h1 h2 g1 g2 f1 f2=>?_⟩⟩
 ·rcases new a o ha with z | z
  ·exact W.new a o z
  ·exact .inr (S.new i e v a q hv z)
 ·rcases get_set hj with ⟨rfl,e1,_⟩ | ⟨vj,q1⟩
  ·cases e1;exact ⟨v,hv,r⟩
  ·obtain ⟨u,hu,_⟩:=S.ent j en q1;exact ⟨u,hu,fr j en u vj q1 hu⟩
 ·rcases get_set hj with ⟨rfl,e1,_⟩ | ⟨vj,q1⟩
  ·cases e1;cases f
  ·exact S.new j en u b q1 hu f
 ·rcases get_set h1 with ⟨rfl,z1,_⟩ | ⟨vj,q1⟩
  ·cases z1;cases f1
  ·rcases get_set h2 with ⟨rfl,z2,_⟩ | ⟨hne2,q2⟩
   ·cases z2;cases f2
   ·exact S.dis j k e1 e2 u1 u2 b hjk q1 q2 g1 g2 f1 f2
theorem StR.frz {H0 uw Hs H:Hp} {δ:DSt} {σ:St} {i:Nat} (W:Wd H0 uw Hs H) (S:StR H0 Hs H δ σ):∃ uq,Wd H0 uw uq H/\StR H0 uq H (frz i δ) σ:=by
 unfold Ew.frz;cases q:δ[i]? with
 | none=>exact ⟨Hs,W,S⟩
 | some o=>
  cases o with
  | none=>exact ⟨Hs,W,S⟩
  | some en=>
   cases en with
   | sh d=>exact ⟨Hs,W,S⟩
   | ob a C fs=>exact ⟨Hs,W,S⟩
   | on b d=>exact ⟨Hs,W,S⟩
   | scr K ns=>exact ⟨Hs,W,S⟩
   | nw d=>
    obtain ⟨v,hv,L,h1,h2⟩:=S.ent i _ q;obtain ⟨uq,r,s1,s2,s3⟩:=h1.share W.sub h2;exact ⟨uq,S.frz1 W q hv r s1 s2 fun a o e=>(s3 a o e).imp id fun z=>⟨L,h1,z⟩⟩
   | ow ds=>
    obtain ⟨v,hv,a,vs,e1,m,h1,h2⟩:=S.ent i _ q;subst e1;refine ⟨L2.upd Hs a (.lst vs),S.frz1 W q hv ?_ (fun b o e=>?_) (.new m) fun b o e=>?_⟩
    ·unfold Rep;exact ⟨a,vs,rfl,aB,aC.mono (.new m) ds h2⟩
    ·by_cases hb:b=a
     ·subst hb;rw [aB] at e;cases e;exact h1
     ·rw [aD hb] at e;exact W.sub _ _ e
    ·by_cases hb:b=a
     ·subst hb;exact .inr rfl
     ·rw [aD hb] at e;exact .inl e
noncomputable def i8 (i:Nat) (F:FS):FS:=fun δ=>F (frz i δ)
theorem fG {i:Nat} (h:DS X st F):DS X st (i8 i F):=.mk fun H0 uw=>(h.go H0 uw).weak fun D σ H ⟨Hs,δ,res,W,S,e,P⟩=>by
 obtain ⟨uq,W1,S1⟩:=S.frz (i:=i) W;exact ⟨uq,_,res,W1,S1,e,P⟩
noncomputable def R.ent:R->Option E
 | .sh d=>some (.sh d)
 | .fr ds=>some (.ow ds)
 | .bw _=>none
theorem StR.set {H0 uw H Hs Hs' H':Hp} {δ:DSt} {σ:St} {i:Nat} {r:R} {v:V} {en:E} (W:Wd H0 uw Hs H) (S:StR H0 Hs H δ σ) (w:Wd H Hs Hs' H') (h:di H Hs' H' r v) (e:r.ent=some en):StR H0 Hs' H' (δ.set i (some en)) (σ.set i (some v)):=by
 refine S.put W.keep w ?_ fun b f=>?_
 ·cases r with
  | sh d=>cases e;exact h
  | fr ds=>cases e;obtain ⟨a,vs,e1,_,m,h1,h2⟩:=h;exact ⟨a,vs,e1,m,h1,h2⟩
  | bw ds=>cases e
 ·cases r with
  | sh d=>cases e;cases f
  | fr ds=>cases e;obtain ⟨a,vs,e1,n,_⟩:=h;rw [e1] at f;cases f;exact n
  | bw ds=>cases e
noncomputable def sset (i:Nat) (f:FE):FS:=fun δ=>(f δ).bind fun r=>r.ent.bind fun en=>some (.nx (δ.set i (some en)))
theorem ts_set {H0 uw:Hp} {i:Nat} {D:Ends} {σ:St} {H:Hp} (h:tS H0 uw (sset i f) D σ H):tAsg (tD f) (nT i) D σ H:=by
 obtain ⟨Hs,δ,res,W,S,e,P⟩:=h;unfold sset at e;cases et:f δ with
 | none=>rw [et] at e;cases e
 | some r=>
  rw [et] at e;replace e:(r.ent.bind fun en=>some (Res.nx (δ.set i (some en))))=some res:=e;cases ee:r.ent with
  | none=>rw [ee] at e;cases e
  | some en=>
   rw [ee] at e;cases e;exact ⟨Hs,δ,r,W.sub,S.ent,et,fun v uq H1 W1 R1=>P _ uq H1 (W.trans W1) (S.set W W1 R1 ee)⟩
theorem ds_set {i:Nat} {x:Str} {pos':Pos} (hN:X.N.Nodup) (hi:X.N[i]?=some x) (hx:Loc X.env.scope x) (he:DE X e f) (hs:swapsWith e (some (.Name x pos')) pos.line X.env=pure false:=by rfl)
 (hf:X.fn x=true\/X.env.scope.names.lookup x=some .local:=by first | exact .inl rfl | exact .inr rfl | assumption):DS X (.Assign [.Name x pos'] e pos) (sset i f):=.mk fun H0 uw=>(lS hN hi hx he.go hs hf).weak fun _ _ _=>ts_set
end
end Ew
end
section
namespace L2
open PySem PySem.Spec
theorem PI.weak {X:Cx} {tg iter:Expr} {t t':TI} (h:PI X tg iter t) (w:∀ σ H R,t' σ H R->t σ H R):PI X tg iter t':=fun pins s σ H R I q=>h pins s σ H R I (w σ H R q)
theorem PG.weak {X:Cx} {tg:Expr} {t t':TG} (h:PG X tg t) (w:∀ v σ H Q,t' v σ H Q->t v σ H Q):PG X tg t':=fun pins s σ H v u Q I r q=>h pins s σ H v u Q I r (w v σ H Q q)
theorem PGs.weak {X:Cx} {ts:List Expr} {t t':TGs} (h:PGs X ts t) (w:∀ v σ H Q,t' v σ H Q->t v σ H Q):PGs X ts t':=fun pins s σ H v u Q I r q=>h pins s σ H v u Q I r (w v σ H Q q)
end L2
namespace Ew
open PySem PySem.Spec L2
structure jz (Hs:Hp) (ks:List Nat) (δ:DSt) (σ:St) (δ':DSt) (σ':St):Prop where
 lenS:σ'.length=σ.length
 lenD:δ'.length=δ.length
 out:∀ j,j∉ks->δ'[j]?=δ[j]?/\σ'[j]?=σ[j]?
 ins:∀ j,j∈ks->∃ d v,δ'[j]?=some (some (.sh d))/\σ'[j]?=some (some v)/\Rep Hs d v
theorem jz.refl {Hs:Hp} {δ:DSt} {σ:St}:jz Hs [] δ σ δ σ:=⟨rfl,rfl,fun _ _=>⟨rfl,rfl⟩,fun _ h=>by cases h⟩
theorem jz.trans {Hs:Hp} {ks js:List Nat} {δ δ1 δ2:DSt} {σ σ1 σ2:St} (a:jz Hs ks δ σ δ1 σ1) (b:jz Hs js δ1 σ1 δ2 σ2):jz Hs (ks++js) δ σ δ2 σ2:=
 ⟨b.lenS.trans a.lenS,b.lenD.trans a.lenD,fun j hj=>by
  have h1:j∉ks:=fun z=>hj (List.mem_append_left _ z);have h2:j∉js:=fun z=>hj (List.mem_append_right _ z);exact ⟨(b.out j h2).1.trans (a.out j h1).1,(b.out j h2).2.trans (a.out j h1).2⟩,fun j hj=>by
  by_cases h2:j∈js
  ·exact b.ins j h2
  ·have h1:j∈ks:=(List.mem_append.mp hj).elim id fun z=>absurd z h2;obtain ⟨d,v,e1,e2,r⟩:=a.ins j h1;exact ⟨d,v,(b.out j h2).1.trans e1,(b.out j h2).2.trans e2,r⟩⟩
theorem jz.ent {Hs H:Hp} {ks:List Nat} {δ δ':DSt} {σ σ':St} (r:jz Hs ks δ σ δ' σ') (h:fB Hs H δ σ):fB Hs H δ' σ':=fun i e q=>by
 by_cases hi:i∈ks
 ·obtain ⟨d,v,e1,e2,rr⟩:=r.ins i hi;rw [q] at e1;cases e1;exact ⟨v,e2,rr⟩
 ·rw [(r.out i hi).1] at q;rw [(r.out i hi).2];exact h i e q
theorem jz.st {H0 Hs H:Hp} {ks:List Nat} {δ δ':DSt} {σ σ':St} (r:jz Hs ks δ σ δ' σ') (h:StR H0 Hs H δ σ):StR H0 Hs H δ' σ':=by
 have no:∀ i en,δ'[i]?=some (some en)->(∀ d,en≠.sh d)->i∉ks:=fun i en q n hi=>by
  obtain ⟨d,v,e1,_⟩:=r.ins i hi;rw [q] at e1;cases e1;exact n d rfl
 have fp:∀ i en v b,δ'[i]?=some (some en)->Fp H en v b->i∉ks:=fun i en v b q f=>no i en q fun d z=>by rw [z] at f;cases f
 refine ⟨r.ent h.ent,by rw [r.lenS,r.lenD];exact h.len,fun i e v b q1 q2 f=>?_,fun i j e e' v v' b hij q1 q2 q3 q4 f f'=>?_⟩
 ·have hi:=fp i e v b q1 f;rw [(r.out i hi).1] at q1;rw [(r.out i hi).2] at q2;exact h.new i e v b q1 q2 f
 ·have hi:=fp i e v b q1 f;have hj:=fp j e' v' b q2 f';rw [(r.out i hi).1] at q1;rw [(r.out i hi).2] at q3;rw [(r.out j hj).1] at q2;rw [(r.out j hj).2] at q4;exact h.dis i j e e' v v' b hij q1 q2 q3 q4 f f'
abbrev GD:=D->DSt->Option DSt
abbrev GDs:=List D->DSt->Option DSt
noncomputable def tG (ks:List Nat) (g:GD):TG:=fun v σ H Q=>∃ Hs δ d δ',aO Hs H/\σ.length=δ.length/\Rep Hs d v/\g d δ=some δ'/\∀ σ',jz Hs ks δ σ δ' σ'->Q σ' H
noncomputable def tGs (ks:List Nat) (g:GDs):TGs:=fun vs σ H Q=>∃ Hs δ ds δ',aO Hs H/\σ.length=δ.length/\aC Hs ds vs/\g ds δ=some δ'/\∀ σ',jz Hs ks δ σ δ' σ'->Q σ' H
structure DG (X:Cx) (tg:Expr) (ks:List Nat) (g:GD):Prop where
 go:PG X tg (tG ks g)
structure DGs (X:Cx) (ts:List Expr) (ks:List Nat) (g:GDs):Prop where
 go:PGs X ts (tGs ks g)
noncomputable def aq (i:Nat):GD:=fun d δ=>if i<δ.length then some (δ.set i (some (.sh d))) else none
theorem jz.name {Hs:Hp} {i:Nat} {δ:DSt} {σ:St} {d:D} {v:V} (hl:σ.length=δ.length) (hi:i<δ.length) (r:Rep Hs d v):jz Hs [i] δ σ (δ.set i (some (.sh d))) (σ.set i (some v)):=
 ⟨by simp,by simp,fun j hj=>by
  have:i≠j:=fun z=>hj (by simp [z]);exact ⟨List.getElem?_set_ne this,List.getElem?_set_ne this⟩,fun j hj=>by
  have e:j=i:=by simpa using hj
  subst e;exact ⟨d,v,List.getElem?_set_self hi,List.getElem?_set_self (by rw [hl];exact hi),r⟩⟩
section
variable {X:Cx} {pos:Pos}
theorem dg_name {i:Nat} {x:Str} (h:PG X (.Name x pos) (nT i)):DG X (.Name x pos) [i] (aq i):=.mk <| h.weak fun v σ H Q ⟨Hs,δ,d,δ',S,hl,r,e,K⟩=>by
 unfold aq at e;by_cases hi:i<δ.length
 ·rw [if_pos hi] at e;cases e;exact K _ (.name hl hi r)
 ·rw [if_neg hi] at e;cases e
noncomputable def i9:GDs:=fun ds δ=>match ds with
 | []=>some δ
 | _=>none
noncomputable def bO (g:GD) (gs:GDs):GDs:=fun ds δ=>match ds with
 | d::r=>(g d δ).bind fun δ1=>gs r δ1
 | []=>none
theorem dgs_nil:DGs X [] [] i9:=.mk <| pgs_nil.weak fun vs σ H Q ⟨Hs,δ,ds,δ',S,hl,r,e,K⟩=>by
 cases ds with
 | nil=>cases e;unfold aC at r;exact ⟨r,K σ .refl⟩
 | cons d ds=>cases e
theorem qi {e:Expr} {es:List Expr} {ks js:List Nat} {g:GD} {gs:GDs} (h1:DG X e ks g) (h2:DGs X es js gs)
  (hs:(assignEach (e::es) X.env).map (·.2)=assign e X.env::(assignEach es X.env).map (·.2):=by rfl):DGs X (e::es) (ks++js) (bO g gs):=.mk <|
 (pgs_cons h1.go h2.go hs).weak fun vs σ H Q ⟨Hs,δ,ds,δ',S,hl,r,e,K⟩=>by
  cases ds with
  | nil=>cases e
  | cons d ds=>
   unfold aC at r;obtain ⟨v,t,rfl,r1,r2⟩:=r;unfold bO at e;cases eg:g d δ with
   | none=>simp only [eg] at e;cases e
   | some δ1=>
    simp only [eg] at e;exact ⟨v,t,rfl,Hs,δ,d,δ1,S,hl,r1,eg,fun σ1 q1=>⟨Hs,δ1,ds,δ',S,by rw [q1.lenS,q1.lenD];exact hl,r2,e,fun σ2 q2=>K σ2 (q1.trans q2)⟩⟩
noncomputable def iM (n:Nat) (gs:GDs):GD:=fun d δ=>match d with
 | .tup ds=>if ds.length=n then gs ds δ else none
 | _=>none
theorem dg_tup {es:List Expr} {k:Nat} {ks:List Nat} {gs:GDs} {n:Nat} (hc:X.calm=true) (h:DGs X es ks gs)
  (hn:(assignEach es X.env).length=n:=by rfl) (hst:(assignEach es X.env).findIdx? (·.1)=none:=by rfl):DG X (.Tuple es k pos) ks (iM n gs):=.mk <|
 (pg_tup hc h.go hn hst).weak fun v σ H Q ⟨Hs,δ,d,δ',S,hl,r,e,K⟩=>by
  cases d with
  | tup ds=>
   unfold Rep at r;obtain ⟨a,vs,rfl,h1,h2⟩:=r;unfold iM at e;by_cases hd:ds.length=n
   ·simp only [if_pos hd] at e;exact ⟨a,vs,rfl,.of (S _ _ h1),h2.length.trans hd,Hs,δ,ds,δ',S,hl,h2,e,K⟩
   ·simp only [if_neg hd] at e;cases e
  | _=>cases e
end
noncomputable def Yields (J:It) (uq:Hp) (items:List D):Prop:=∀ i Hs H,aO uq Hs->aO Hs H->
 (∀ d,items[i]?=some d->J.go i H/\∀ x H',J.yld i H x H'->∃ Hs',Wd H Hs Hs' H'/\Rep Hs' d x)/\(items.length<=i->J.stop i H)
noncomputable def tI (fi:DSt->Option (List D)):TI:=fun σ H R=>∃ Hs δ items,aO Hs H/\fB Hs H δ σ/\fi δ=some items/\∀ J Hs' H',Wd H Hs Hs' H'->Yields J Hs' items->R J H'
structure DI (X:Cx) (tg iter:Expr) (fi:DSt->Option (List D)):Prop where
 go:PI X tg iter (tI fi)
noncomputable def aH (f:FE):DSt->Option (List D):=fun δ=>(f δ).bind fun r=>if r.isBw=true then none else match r.view with
 | .lst ds=>some ds
 | _=>none
noncomputable def itup (f:FE):DSt->Option (List D):=fun δ=>(f δ).bind fun r=>match r with
 | .sh (.tup ds)=>some ds
 | _=>none
theorem qj {K:Frag} {uq:Hp} {a:Addr} {vs:List V} {ds:List D} (h:uq a=some (.lst vs)) (r:aC uq ds vs):Yields (Itl K a) uq ds:=by
 intro i Hs H S1 S2;have hH:=S2 _ _ (S1 _ _ h);refine ⟨fun d hd=>?_,fun hl=>⟨vs,.of hH,by rw [r.length];exact hl⟩⟩;obtain ⟨v,hv,rv⟩:=r.get hd;refine ⟨⟨vs,v,.of hH,hv⟩,fun x H' y=>?_⟩;obtain ⟨rfl,y⟩:=y;have:=y vs (.of hH);rw [hv] at this;cases this;exact ⟨Hs,.refl S2,Rep.mono S1 _ rv⟩
theorem oZ {uq:Hp} {lo:Int} {n:Nat}:Yields (Itr lo n) uq ((List.range n).map fun k=>.int (lo+(k:Nat))):=by
 intro i Hs H S1 S2;refine ⟨fun d hd=>?_,fun hl=>(show n<=i by simpa using hl)⟩;have hi:i<n:=by
  have:=(List.getElem?_eq_some_iff.mp hd).1;simpa using this
 rw [List.getElem?_map,List.getElem?_range hi] at hd;cases hd;refine ⟨hi,fun x H' y=>?_⟩;obtain ⟨rfl,rfl⟩:=y;exact ⟨Hs,.refl S2,by unfold Rep;rfl⟩
section
variable {X:Cx} {tg l:Expr} {f:FE}
theorem bf (hl:DE X l f):DI X tg l (aH f):=.mk <| (pi_list hl.go).weak fun σ H R ⟨Hs,δ,items,S,En,e,K⟩=>by
 unfold aH at e;cases ef:f δ with
 | none=>rw [ef] at e;cases e
 | some r=>
  rw [ef] at e;by_cases hb:r.isBw=true
  ·simp only [Option.bind,if_pos hb] at e;cases e
  ·simp only [Option.bind,if_neg hb] at e;refine ⟨Hs,δ,r,S,En,ef,fun x uq H1 W1 R1=>?_⟩;obtain ⟨uv,q,W2⟩:=R1.share W1 (fun ds z=>hb (by rw [z];rfl));cases hv:r.view with
   | lst ds=>
    rw [hv] at e q;cases e;unfold Rep at q;obtain ⟨a,vs,rfl,h1,h2⟩:=q;exact ⟨a,rfl,⟨vs,.of (W2.sub _ _ h1)⟩,K _ uv H1 W2 (qj h1 h2)⟩
   | _=>rw [hv] at e;cases e
noncomputable def gM (fa:DSt->Option (List R)):DSt->Option (List D):=fun δ=>(fa δ).bind fun rs=>match rs with
 | [.sh (.int j)]=>if -(2 ^ 62)<=j/\j<2 ^ 62 then some ((List.range j.toNat).map fun k=>.int (0+(k:Nat))) else none
 | _=>none
theorem di_range1 {a:Expr} {fa:DSt->Option (List R)} {p pos:Pos} (hg:Gl X "range") (hm:X.mg "range" = none) (ha:DA X [a] fa) (hs:starEach [a] X.env=[(false,eval a X.env)]:=by rfl):DI X tg (.Call (.Name "range" p) [a] [] pos) (gM fa):=.mk <|
 (pi_range1 hg hm ha.go hs).weak fun σ H R ⟨Hs,δ,items,S,En,e,K⟩=>by
  unfold gM at e;cases ef:fa δ with
  | none=>rw [ef] at e;cases e
  | some rs=>
   rw [ef] at e;refine ⟨Hs,δ,rs,S,En,ef,fun vs uq H1 W1 R1=>?_⟩
   match rs,e,R1 with
   | [.sh (.int j)],e,⟨v,t,ev,q1,q2⟩=>
    have q2:t=[]:=q2;have q1:Rep uq (.int j) v:=q1;unfold Rep at q1;by_cases hj:-(2 ^ 62)<=j/\j<2 ^ 62
    ·simp only [Option.bind,if_pos hj] at e;cases e;exact ⟨j,by rw [ev,q1,q2],hj.1,hj.2,K _ uq H1 W1 oZ⟩
    ·simp only [Option.bind,if_neg hj] at e;cases e
end
noncomputable def Res.loop (k:DSt->Option Res):Res->Option Res
 | .nx δ=>k δ
 | .ct δ=>k δ
 | .bk δ=>some (.nx δ)
 | .rt r=>some (.rt r)
 | .rn d=>some (.rn d)
noncomputable def ba (g:GD) (body:FS):List D->DSt->Option Res
 | [],δ=>some (.nx δ)
 | d::r,δ=>(g d δ).bind fun δ1=>(body δ1).bind (Res.loop (ba g body r))
noncomputable def bN (fi:DSt->Option (List D)) (g:GD) (body:FS):FS:=fun δ=>(fi δ).bind fun items=>ba g body items δ
theorem Wd.via {H0 uw uq H1 Hs H:Hp} (a:Wd H0 uw uq H1) (b:Wd H0 uq Hs H):Wd H0 uw Hs H:=
 ⟨b.keep,b.sub,a.base.trans b.base,fun c o e=>by
  rcases b.new c o e with q | q
  ·exact a.new c o q
  ·exact .inr q⟩
noncomputable def cZ (c:DSt->Option Bool) (body:FS):Nat->DSt->Option Res
 | 0,_=>none
 | n+1,δ=>(c δ).bind fun b=>if b=true then (body δ).bind (Res.loop (cZ c body n)) else some (.nx δ)
section
variable {X:Cx} {tg iter:Expr} {body:List Stmt} {fi:DSt->Option (List D)} {ks:List Nat} {g:GD} {F:FS} {pos:Pos}
theorem ds_for (hp:PassesOwn (model X.prog X.w) X.A X.env X.xe) (hc:X.calm=true) (hi:DI X tg iter fi) (hg:DG X tg ks g) (hb:DSs X body F)
  (hs:∀ x,foldedSetIterable iter X.env x=pure x:=by intro _;rfl):DS X (.For tg iter body [] pos) (bN fi g F):=.mk fun H0 uw=>by
 have hb':PSs X body (fun D σ H=>∃ uq,tS H0 uq F D σ H):=fun pins s σ H D I ⟨uq,h⟩=>hb.go H0 uq pins s σ H D I h;refine (ps_for hp hc hi.go hg.go hb' hs).weak fun D σ H ⟨Hs,δ,res,W,S,e,P⟩=>?_;unfold bN at e;cases ei:fi δ with
 | none=>rw [ei] at e;cases e
 | some items=>
  rw [ei] at e;refine ⟨Hs,δ,items,W.sub,S.ent,ei,fun J uq H1 W1 Y=>?_⟩;have W01:=W.trans W1;refine ⟨fun i m σ H=>m=items.length-i/\i<=items.length/\∃ Hs δ,Wd H0 uq Hs H/\StR H0 Hs H δ σ/\ba g F (items.drop i) δ=some res,
   ⟨items.length,by simp,Nat.zero_le _,uq,δ,⟨W01.keep,W1.sub,.refl _,fun _ _ e=>.inl e⟩,S.mono W1,by simpa using e⟩,?_⟩
  rintro i m σ1 H2 ⟨rfl,hi.go,uv,δ1,W2,S2,e2⟩;by_cases vk:i<items.length
  ·have hd:items[i]?=some items[i]:=by simp [vk]
   obtain ⟨go,yl⟩:=(Y i uv H2 W2.base W2.sub).1 _ hd;refine .inr ⟨go,fun σ' H'=>i+1<=items.length/\∃ Hs δ,Wd H0 uq Hs H'/\StR H0 Hs H' δ σ'/\ba g F (items.drop (i+1)) δ=some res,fun σ' H' ⟨a,b⟩=>⟨_,by omega,rfl,a,b⟩,fun x H3 y=>?_⟩;obtain ⟨Hs3,W3,rx⟩:=yl x H3 y;have S3:=S2.mono W3;rw [List.drop_eq_getElem_cons vk] at e2;unfold ba at e2;cases eg:g items[i] δ1 with
   | none=>rw [eg] at e2;cases e2
   | some δ2=>
    rw [eg] at e2;refine ⟨Hs3,δ1,items[i],δ2,W3.sub,S3.len,rx,eg,fun σ4 sr=>?_⟩;replace e2:((F δ2).bind (Res.loop (ba g F (items.drop (i+1)))))=some res:=e2;cases eF:F δ2 with
    | none=>rw [eF] at e2;cases e2
    | some r2=>
     rw [eF] at e2;refine ⟨uq,Hs3,δ2,r2,W2.trans W3,sr.st S3,eF,?_⟩;cases r2 with
     | nx δ3=>exact fun σ5 Hs5 H5 W5 S5=>⟨vk,Hs5,δ3,W5,S5,e2⟩
     | ct δ3=>exact fun σ5 Hs5 H5 W5 S5=>⟨vk,Hs5,δ3,W5,S5,e2⟩
     | bk δ3=>cases e2;exact fun σ5 Hs5 H5 W5 S5=>P σ5 Hs5 H5 (W01.via W5) S5
     | rt r=>cases e2;exact fun v Hs5 H5 W5 R5=>P v Hs5 H5 (W01.via W5) R5
     | rn d=>cases e2;exact fun v Hs5 H5 L W5 R5=>P v Hs5 H5 L (W01.via W5) R5
  ·have hi':i=items.length:=by omega
   subst hi';rw [List.drop_length] at e2;cases e2;exact .inl ⟨(Y _ uv H2 W2.base W2.sub).2 (Nat.le_refl _),P σ1 uv H2 (W01.via W2) S2⟩
theorem ds_while {c:Expr} {t:DSt->Option Bool} (n:Nat) (hp:PassesOwn (model X.prog X.w) X.A X.env X.xe) (hc:DT X c t) (hb:DSs X body F):DS X (.While c body [] pos) (cZ t F n):=.mk fun H0 uw=>
 (ps_while hp hc.go (hb.go H0 uw)).weak fun D σ H ⟨Hs,δ,res,W,S,e,P⟩=>by
  refine ⟨fun m σ H=>∃ Hs δ,Wd H0 uw Hs H/\StR H0 Hs H δ σ/\cZ t F m δ=some res,⟨n,Hs,δ,W,S,e⟩,?_⟩;rintro m σ1 H1 ⟨uq,δ1,W1,S1,e1⟩;cases m with
  | zero=>cases e1
  | succ m=>
   unfold cZ at e1;cases et:t δ1 with
   | none=>rw [et] at e1;cases e1
   | some k=>
    rw [et] at e1;refine ⟨uq,δ1,k,W1.sub,S1.ent,et,fun uv H2 W2=>?_⟩;cases k with
    | false=>cases e1;rw [if_neg Bool.false_ne_true];exact P σ1 uv H2 (W1.trans W2) (S1.mono W2)
    | true=>
     rw [if_pos rfl];replace e1:((F δ1).bind (Res.loop (cZ t F m)))=some res:=e1;cases eF:F δ1 with
     | none=>rw [eF] at e1;cases e1
     | some r2=>
      rw [eF] at e1;refine ⟨fun σ' H'=>∃ Hs δ,Wd H0 uw Hs H'/\StR H0 Hs H' δ σ'/\cZ t F m δ=some res,fun σ' H' h=>⟨m,Nat.lt_succ_self m,h⟩,uv,δ1,r2,W1.trans W2,S1.mono W2,eF,?_⟩;cases r2 with
      | nx δ3=>exact fun σ5 Hs5 H5 W5 S5=>⟨Hs5,δ3,W5,S5,e1⟩
      | ct δ3=>exact fun σ5 Hs5 H5 W5 S5=>⟨Hs5,δ3,W5,S5,e1⟩
      | bk δ3=>cases e1;exact fun σ5 Hs5 H5 W5 S5=>P σ5 Hs5 H5 W5 S5
      | rt r=>cases e1;exact fun v Hs5 H5 W5 R5=>P v Hs5 H5 W5 R5
      | rn d=>cases e1;exact fun v Hs5 H5 L W5 R5=>P v Hs5 H5 L W5 R5
end
noncomputable def dIn (m:Nat) (ix:List Nat) (δ:DSt):DSt:=List.replicate m none++ix.map fun i=>(δ[i]?).join
noncomputable def cO (g:GD) (c:DSt->Option Bool) (fe:FE) (δ:DSt):List D->Option (List D)
 | []=>some []
 | d::r=>(g d δ).bind fun δ1=>(c δ1).bind fun b=>if b=true then (fe δ1).bind fun r1=>if r1.isBw=true then none else (cO g c fe δ r).bind fun t=>some (r1.view::t) else cO g c fe δ r
noncomputable def bI (fi:DSt->Option (List D)) (g:GD) (c:DSt->Option Bool) (fe:FE) (m:Nat) (ix:List Nat):FE:=fun δ=>(fi δ).bind fun items=>if items.length<=big then (cO g c fe (dIn m ix δ) items).map .fr else none
theorem entIn {Hs H:Hp} {δ:DSt} {σ:St} (m:Nat) (ix:List Nat) (h:fB Hs H δ σ):fB Hs H (dIn m ix δ) (gt m ix σ):=fun j e q=>by
 unfold dIn at q;unfold gt;by_cases hj:j<m
 ·rw [List.getElem?_append_left (by simpa using hj),List.getElem?_replicate] at q;split at q <;> cases q
 ·obtain ⟨k,rfl⟩ : ∃ k,j=m+k:=⟨j-m,by omega⟩;rw [List.getElem?_append_right (by simp),List.length_replicate,Nat.add_sub_cancel_left,List.getElem?_map] at q ⊢;cases hi:ix[k]? with
  | none=>rw [hi] at q;cases q
  | some i=>
   rw [hi] at q;have q':(δ[i]?).join=some e:=by simpa using q
   have q'':δ[i]?=some (some e):=by
    cases z:δ[i]? with
    | none=>rw [z] at q';cases q'
    | some y=>rw [z] at q';simp at q';rw [q']
   obtain ⟨v,hv,hr⟩:=h i e q'';exact ⟨v,by simp [hv],hr⟩
theorem dIn_own {m:Nat} {ix:List Nat} {δ:DSt} {j:Nat} {e:E} (h:(dIn m ix δ)[j]?=some (some e)):m<=j:=by
 rcases Nat.lt_or_ge j m with hj | hj
 ·unfold dIn at h;rw [List.getElem?_append_left (by simpa using hj),List.getElem?_replicate] at h;split at h <;> cases h
 ·exact hj
theorem tD_comp {fi:DSt->Option (List D)} {ks:List Nat} {g:GD} {c:DSt->Option Bool} {fe:FE} {m:Nat} {ix:List Nat} (hk:∀ j∈ks,j<m) {σ:St} {H:Hp} {Q:VK} (h:tD (bI fi g c fe m ix) σ H Q) :
  tComp (tI fi) (tG ks g) (tDT c) (tD fe) m ix σ H Q:=by
 obtain ⟨Hs,δ,r,S,En,e,K⟩:=h;unfold bI at e;cases ei:fi δ with
 | none=>rw [ei] at e;cases e
 | some items=>
  rw [ei] at e;replace e:(if items.length<=big then (cO g c fe (dIn m ix δ) items).map R.fr else none)=some r:=e;by_cases hbig:items.length<=big
  ·rw [if_pos hbig] at e;cases em:cO g c fe (dIn m ix δ) items with
   | none=>rw [em] at e;cases e
   | some out=>
    rw [em] at e;cases e;refine ⟨Hs,δ,items,S,En,ei,fun J uq H1 W1 Y A hA=>?_⟩;have En1:fB uq H1 (dIn m ix δ) (gt m ix σ):=entIn m ix (En.mono W1);have len1:(gt m ix σ).length=(dIn m ix δ).length:=by unfold gt dIn;simp
    have hA1:uq A=none:=W1.sub.free hA;refine ⟨fun i n σ' H'=>n=items.length-i/\i<=items.length/\σ'.length=(dIn m ix δ).length/\(∀ j,m<=j->σ'[j]?=(gt m ix σ)[j]?)/\
     ∃ Hs' ds vs rest,Wd H1 uq Hs' H'/\Hs' A=none/\H' A=some (.lst vs)/\aC Hs' ds vs/\ds.length<=i/\cO g c fe (dIn m ix δ) (items.drop i)=some rest/\out=ds++rest,?_,?_⟩
    ·refine ⟨items.length,by simp,Nat.zero_le _,len1,fun _ _=>rfl,uq,[],[],out,⟨.new hA,W1.sub.trans (.new hA),.refl _,fun _ _ e=>.inl e⟩,hA1,aB,.nil,Nat.zero_le _,by simpa using em,by simp⟩
    ·rintro i n σ1 H2 ⟨rfl,hi,hl1,hσ1,uv,ds,vs,rest,W2,hA2,hv2,r2,hd2,e2,eo⟩;by_cases vk:i<items.length
     ·have hd:items[i]?=some items[i]:=by simp [vk]
      obtain ⟨go,yl⟩:=(Y i uv H2 W2.base W2.sub).1 _ hd;refine .inr ⟨go,fun σ' H'=>i+1<=items.length/\σ'.length=(dIn m ix δ).length/\(∀ j,m<=j->σ'[j]?=(gt m ix σ)[j]?)/\
       ∃ Hs' ds vs rest,Wd H1 uq Hs' H'/\Hs' A=none/\H' A=some (.lst vs)/\aC Hs' ds vs/\ds.length<=i+1/\cO g c fe (dIn m ix δ) (items.drop (i+1))=some rest/\out=ds++rest,
       fun σ' H' ⟨a,b,c',d'⟩=>⟨_,by omega,rfl,a,b,c',d'⟩,fun x H3 y=>?_⟩
      obtain ⟨Hs3,W3,rx⟩:=yl x H3 y;have W13:=W2.trans W3;have A3:=W3.stay hv2 hA2;have v3:=W3.keep _ _ hv2;have En3:fB Hs3 H3 (dIn m ix δ) σ1:=fun j en q=>by
       obtain ⟨v,hv,hr⟩:=(En1.mono W13) j en q;exact ⟨v,by rw [hσ1 j (dIn_own q)];exact hv,hr⟩
      rw [List.drop_eq_getElem_cons vk] at e2;unfold cO at e2;cases eg:g items[i] (dIn m ix δ) with
      | none=>rw [eg] at e2;cases e2
      | some δ2=>
       rw [eg] at e2;refine ⟨Hs3,_,items[i],δ2,W3.sub,hl1,rx,eg,fun σ4 sr=>?_⟩;have hl4:σ4.length=(dIn m ix δ).length:=by rw [sr.lenS];exact hl1
       have hσ4:∀ j,m<=j->σ4[j]?=(gt m ix σ)[j]?:=fun j hj=>by
        rw [(sr.out j fun z=>Nat.not_lt.mpr hj (hk j z)).2];exact hσ1 j hj
       have En4:fB Hs3 H3 δ2 σ4:=sr.ent En3;replace e2:((c δ2).bind fun b=>if b=true then (fe δ2).bind fun r1=>if r1.isBw=true then none else (cO g c fe (dIn m ix δ) (items.drop (i+1))).bind fun t=>some (r1.view::t) else cO g c fe (dIn m ix δ) (items.drop (i+1)))=some rest:=e2;cases ec:c δ2 with
       | none=>rw [ec] at e2;cases e2
       | some b=>
        rw [ec] at e2;refine ⟨Hs3,δ2,b,W3.sub,En4,ec,fun Hs5 H5 W5=>?_⟩;have W15:=W13.trans W5;have A5:=W5.stay v3 A3;have v5:=W5.keep _ _ v3;cases b with
        | false=>
         simp only [Bool.false_eq_true,if_false];exact ⟨vk,hl4,hσ4,Hs5,ds,vs,rest,W15,A5,v5,aC.mono (W3.base.trans W5.base) _ r2,by omega,e2,eo⟩
        | true=>
         simp only [if_true];replace e2:((fe δ2).bind fun r1=>if r1.isBw=true then none else (cO g c fe (dIn m ix δ) (items.drop (i+1))).bind fun t=>some (r1.view::t))=some rest:=e2;cases ef:fe δ2 with
         | none=>rw [ef] at e2;cases e2
         | some r1=>
          rw [ef] at e2;replace e2:(if r1.isBw=true then none else (cO g c fe (dIn m ix δ) (items.drop (i+1))).bind fun t=>some (r1.view::t))=some rest:=e2;by_cases hb:r1.isBw=true
          ·rw [if_pos hb] at e2;cases e2
          ·rw [if_neg hb] at e2;cases er:cO g c fe (dIn m ix δ) (items.drop (i+1)) with
           | none=>rw [er] at e2;cases e2
           | some t=>
            rw [er] at e2;cases e2;refine ⟨Hs5,δ2,r1,W5.sub,En4.mono W5,ef,fun v Hs6 H6 W6 R6=>?_⟩;obtain ⟨Hs7,q7,W7⟩:=R6.share W6 (fun ds z=>hb (by rw [z];rfl));have A7:=W7.stay v5 A5;have v7:=W7.keep _ _ v5;have W17:=W15.trans W7;have nA:H1 A=none:=hA;refine ⟨vs,v7,?_,vk,hl4,hσ4,Hs7,ds++[r1.view],vs++[v],t,⟨fun b o q=>?_,fun b o q=>?_,W17.base,W17.new⟩,A7,aB,?_,by simp;omega,rfl,by rw [eo];simp⟩
            ·rw [r2.length];exact Nat.lt_of_le_of_lt hd2 (Nat.lt_trans vk (bS hbig))
            ·rw [aD (aK q nA)];exact W17.keep _ _ q
            ·rw [aD (aK q A7)];exact W17.sub _ _ q
            ·exact aC.append (aC.mono (W3.base.trans (W5.base.trans W7.base)) _ r2) (.cons q7 .nil)
     ·have hi':i=items.length:=by omega
      subst hi';rw [List.drop_length] at e2;cases e2;refine .inl ⟨(Y _ uv H2 W2.base W2.sub).2 (Nat.le_refl _),K _ uv H2 (W1.trans W2) ⟨A,vs,rfl,W1.keep.free hA,hA2,hv2,?_⟩⟩;rw [eo,List.append_nil];exact r2
  ·rw [if_neg hbig] at e;cases e
section
variable {X:Cx} {tg elt iter:Expr} {ifs:List Expr} {scope:Scope} {pos:Pos} {N:List Str} {m:Nat} {ix:List Nat} {ks:List Nat} {g:GD} {c:DSt->Option Bool} {fe:FE} {fi:DSt->Option (List D)}
structure DIfs (X:Cx) (ifs:List Expr) (c:DSt->Option Bool):Prop where
 go:PIfs X ifs (tDT c)
noncomputable def dR:DSt->Option Bool:=fun _=>some true
theorem cy:DIfs X [] dR:=.mk <| fun pins s σ H Q I ⟨Hs,δ,b,S,En,e,K⟩=>by
 cases e;exact pifs_nil pins s σ H Q I (K Hs H (.refl S))
theorem fY {e:Expr} (h:DT X e c):DIfs X [e] c:=.mk <| pifs_one h.go
theorem de_comp (hc:X.calm=true) (S:dQ X N m ix scope) (hk:∀ j∈ks,j<m) (hi:DI X tg iter fi)
  (hin:∀ cl C s H fp,DG (bv X N scope cl C s H fp) tg ks g/\DIfs (bv X N scope cl C s H fp) ifs c/\DE (bv X N scope cl C s H fp) elt fe)
  (hs:∀ x,foldedSetIterable iter X.env x=pure x:=by intro _;rfl):DE X (.ListComp elt [⟨tg,iter,ifs,0⟩] scope pos) (bI fi g c fe m ix):=.mk <|
 (pe_comp hc S hi.go (fun cl C s H fp=>⟨(hin cl C s H fp).1.go,(hin cl C s H fp).2.1.go,(hin cl C s H fp).2.2.go⟩) hs).weak fun _ _ _=>tD_comp hk
theorem ds_comp {y:Str} {py spos:Pos} {iy:Nat} (hc:X.calm=true) (S:dQ X N m ix scope) (hk:∀ j∈ks,j<m) (hi:DI X tg iter fi)
  (hin:∀ cl C s H fp,DG (bv X N scope cl C s H fp) tg ks g/\DIfs (bv X N scope cl C s H fp) ifs c/\DE (bv X N scope cl C s H fp) elt fe)
  (hN:X.N.Nodup) (hiy:X.N[iy]?=some y) (hy:Loc X.env.scope y)
  (hsw:swapsWith (.ListComp elt [⟨tg,iter,ifs,0⟩] scope pos) (some (.Name y py)) spos.line X.env=pure true:=by rfl)
  (hf:X.fn y=true\/X.env.scope.names.lookup y=some .local:=by first | exact .inl rfl | exact .inr rfl | assumption)
  (hs:∀ x,foldedSetIterable iter X.env x=pure x:=by intro _;rfl):DS X (.Assign [.Name y py] (.ListComp elt [⟨tg,iter,ifs,0⟩] scope pos) spos) (sset iy (bI fi g c fe m ix)):=.mk fun H0 uw=>
 (ps_comp hc S hi.go (fun cl C s H fp=>⟨(hin cl C s H fp).1.go,(hin cl C s H fp).2.1.go,(hin cl C s H fp).2.2.go⟩) hN hiy hy hsw hf hs).weak fun D σ H h=>tD_comp hk (ts_set h)
end
noncomputable def run (k:Nat) (F:FS) (ds:List D):Option D:=match F (ds.map (fun d=>some (.sh d))++List.replicate (k-ds.length) none) with
 | some (.rt r)=>if r.isBw=true then none else some r.view
 | some (.nx _)=>some .non
 | some (.rn d)=>some d
 | _=>none
noncomputable def runF (k:Nat) (F:FS) (ds:List D):Option (List D):=match F (ds.map (fun d=>some (.sh d))++List.replicate (k-ds.length) none) with
 | some (.rt (.fr d))=>some d
 | _=>none
theorem ma {Hs H:Hp} {N:List Str} {ds:List D} {vs:List V} (r:aC Hs ds vs):StR H Hs H (ds.map (fun d=>some (E.sh d))++List.replicate (N.length-ds.length) none) (L2.start N vs):=by
 have get:∀ (i:Nat) (e:E),(ds.map (fun d=>some (E.sh d))++List.replicate (N.length-ds.length) none)[i]?=some (some e)->∃ d,ds[i]?=some d/\e=E.sh d:=fun i e h=>by
  by_cases hi:i<ds.length
  ·rw [List.getElem?_append_left (by simpa using hi),List.getElem?_map] at h;cases q:ds[i]? with
   | none=>rw [q] at h;cases h
   | some d=>rw [q] at h;cases h;exact ⟨d,rfl,rfl⟩
  ·rw [List.getElem?_append_right (by simpa using hi),List.getElem?_replicate] at h;split at h <;> cases h
 refine ⟨fun i e h=>?_,?_,fun i e v b h _ f=>?_,fun i j e e' v v' b _ h _ _ _ f=>?_⟩
 ·obtain ⟨d,hd,rfl⟩:=get i e h;obtain ⟨v,hv,rv⟩:=r.get hd;refine ⟨v,?_,rv⟩;unfold L2.start;have hi:i<vs.length:=(List.getElem?_eq_some_iff.mp hv).1;rw [List.getElem?_append_left (by simpa using hi),List.getElem?_map,hv];rfl
 ·unfold L2.start;simp [r.length]
 ·obtain ⟨d,_,z⟩:=get i _ h;rw [z] at f;cases f
 ·obtain ⟨d,_,z⟩:=get i _ h;rw [z] at f;cases f
section
variable {P:Program} {w:World} {K:Frag} {mg:Str->Option Value} {base:Heap}
theorem fn_D {x qual:Str} {st:Stmt} {f:Addr} {fd:FuncData} {N ps:List Str} {k:Nat} {F:FS} (F0:Fun K x qual st f fd) (S:d6 N ps (au st))
  (h:∀ (ux:Value) (A:Around) (outer:List Env) (s:Shared) (H:Hp) (E:XK),bG k (A.deeper (envOfC qual (au st) s.heap.objs.size f ux))->DSs (j8 CX0 P w K mg base N qual (au st) f ux A outer s H E).nox (aU st) F) :
  eM P w K mg base CX0 (k+1) f fd ps (spD ps.length (run N.length F)):=by
 refine F0.ok S (fun vs H Q E hs=>spD_len hs) (fun ux A outer s H vs Q E hr hs=>?_);obtain ⟨Hs,ds,d,hl,sub,r,em,post⟩:=hs;refine ⟨_,(h ux A outer s H E hr).go H Hs,?_⟩;unfold run at em;cases eF:F (ds.map (fun d=>some (.sh d))++List.replicate (N.length-ds.length) none) with
 | none=>rw [eF] at em;cases em
 | some res=>
  rw [eF] at em;refine ⟨Hs,_,res,.refl sub,ma r,eF,?_⟩;cases res with
  | nx δ=>
   cases em;exact fun σ uq H1 W1 _=>post .non uq H1 W1 (by unfold Rep;rfl)
  | rt r1=>
   replace em:(if r1.isBw=true then none else some r1.view)=some d:=em;by_cases hb:r1.isBw=true
   ·rw [if_pos hb] at em;cases em
   ·rw [if_neg hb] at em;cases em;intro v uq H1 W1 R1;obtain ⟨uv,q,W2⟩:=R1.share W1 (fun ds z=>hb (by rw [z];rfl));exact post v uv H1 W2 q
  | bk δ=>cases em
  | ct δ=>cases em
  | rn d'=>
   cases em;intro v uq H1 L W1 O n;obtain ⟨uv,q,s1,s2,s3⟩:=O.share W1.sub fun a ha=>(n a ha).2;exact post v uv H1 ⟨W1.keep,s1,W1.base.trans s2,fun a o e=>(s3 a o e).elim (W1.new a o) fun z=>.inr (n a z).1⟩ q
theorem fn_F {x qual:Str} {st:Stmt} {f:Addr} {fd:FuncData} {N ps:List Str} {k:Nat} {F:FS} (F0:Fun K x qual st f fd) (S:d6 N ps (au st))
  (h:∀ (ux:Value) (A:Around) (outer:List Env) (s:Shared) (H:Hp) (E:XK),bG k (A.deeper (envOfC qual (au st) s.heap.objs.size f ux))->DSs (j8 CX0 P w K mg base N qual (au st) f ux A outer s H E).nox (aU st) F) :
  eM P w K mg base CX0 (k+1) f fd ps (spF ps.length (runF N.length F)):=by
 refine F0.ok S (fun vs H Q E hs=>spF_len hs) (fun ux A outer s H vs Q E hr hs=>?_);obtain ⟨Hs,ds,d,hl,sub,r,em,post⟩:=hs;refine ⟨_,(h ux A outer s H E hr).go H Hs,?_⟩;unfold runF at em;cases eF:F (ds.map (fun d=>some (.sh d))++List.replicate (N.length-ds.length) none) with
 | none=>rw [eF] at em;cases em
 | some res=>
  rw [eF] at em;refine ⟨Hs,_,res,.refl sub,ma r,eF,?_⟩
  match res,em with
  | .rt (.fr d'),em=>
   cases em;exact fun v uq H1 W1 R1=>post v uq H1 W1 R1
end
mutual
def D.py:D->PyData
 | .non=>.none
 | .bl b=>.bool b
 | .int i=>.int i
 | .str x=>.str x
 | .lst xs=>.list (pys xs)
 | .tup xs=>.tuple (pys xs)
 | .obj _ _=>.none
def pys:List D->List PyData
 | []=>[]
 | x::xs=>D.py x::pys xs
end
mutual
def D.plain:D->Bool
 | .non=>true
 | .bl _=>true
 | .int _=>true
 | .str _=>true
 | .lst xs=>hE xs
 | .tup xs=>hE xs
 | .obj _ _=>false
def hE:List D->Bool
 | []=>true
 | x::xs=>D.plain x&&hE xs
end
section
variable {X:Cx} {pins:List (Addr×Obj)} {σ:St} {H Hs:Hp} {s:Shared}
mutual
theorem qk (I:L2.Inv X pins σ H s) (S:aO Hs H):∀ (d:D) {v:V} {u:Value},d.plain=true->Rep Hs d v->RelV v u->∃ as,Reads s.heap u d.py as
 | .non,v,u,_,h,r=>by unfold Rep at h;subst h;cases (show u=Value.none from r);unfold D.py;exact ⟨_,.none⟩
 | .bl b,v,u,_,h,r=>by unfold Rep at h;subst h;cases (show u=Value.bool b from r);unfold D.py;exact ⟨_,.bool b⟩
 | .int i,v,u,_,h,r=>by unfold Rep at h;subst h;obtain ⟨t,rfl⟩:=r;unfold D.py;exact ⟨_,.int i t⟩
 | .str x,v,u,_,h,r=>by unfold Rep at h;subst h;obtain ⟨t,rfl⟩:=r;unfold D.py;exact ⟨_,.str x t⟩
 | .lst ds,v,u,p,h,r=>by
  unfold Rep at h;obtain ⟨a,vs,rfl,h1,h2⟩:=h;cases (show u=Value.ref a from r);obtain ⟨z,its,n,rv,e⟩:=I.hok a _ (S _ _ h1);unfold D.plain at p;obtain ⟨as,q⟩:=fz I S ds p h2 rv;unfold D.py;exact ⟨_,.list e rfl rfl (by simpa using q)⟩
 | .tup ds,v,u,p,h,r=>by
  unfold Rep at h;obtain ⟨a,vs,rfl,h1,h2⟩:=h;cases (show u=Value.ref a from r);obtain ⟨z,its,rv,o,e,c,n,hd⟩:=I.hok a _ (S _ _ h1);unfold D.plain at p;obtain ⟨as,q⟩:=fz I S ds p h2 rv;unfold D.py;exact ⟨_,.tuple e c hd (by simpa using q)⟩
 | .obj _ _,v,u,p,h,r=>by unfold D.plain at p;cases p
theorem fz (I:L2.Inv X pins σ H s) (S:aO Hs H):∀ (ds:List D) {vs:List V} {us:List Value},hE ds=true->aC Hs ds vs->aQ vs us->∃ as,ReadsAll s.heap us (pys ds) as
 | [],vs,us,_,h,r=>by unfold aC at h;subst h;cases r;unfold pys;exact ⟨_,.nil⟩
 | d::ds,vs,us,p,h,r=>by
  unfold aC at h;obtain ⟨v,t,rfl,h1,h2⟩:=h;unfold hE at p;rw [um] at p;cases r with
  | cons r1 r2=>
   obtain ⟨as,q1⟩:=qk I S d p.1 h1 r1;obtain ⟨bs,q2⟩:=fz I S ds p.2 h2 r2;unfold pys;exact ⟨_,.cons q1 q2⟩
end
theorem bx (I:L2.Inv X pins σ H s) (S:aO Hs H) (d:D) {v:V} {u:Value} (p:d.plain=true) (h:View Hs H d v) (r:RelV v u):∃ as,Reads s.heap u d.py as:=by
 rcases h with h | ⟨ds,a,vs,rfl,rfl,h1,h2⟩
 ·exact qk I S d p h r
 ·cases (show u=Value.ref a from r);obtain ⟨z,its,n,rv,e⟩:=I.hok a _ h1;unfold D.plain at p;obtain ⟨as,q⟩:=fz I S ds p h2 rv;unfold D.py;exact ⟨_,.list e rfl rfl (by simpa using q)⟩
end
noncomputable def okD (d:D):Bool:=d.plain&&(d.py.canLay0&&decide (d.py.depth<=16))
theorem bP {d:D} (h:okD d=true):d.plain=true/\d.py.canLay0=true/\d.py.depth<=16:=by
 unfold okD at h;rw [um,um] at h;exact ⟨h.1,h.2.1,of_decide_eq_true h.2.2⟩
theorem iE {d:D} (h:okD d=true):SeqAt.shaped d.py=true:=by
 obtain ⟨_,h1,h2⟩:=bP h;unfold SeqAt.shaped;rw [um];exact ⟨h1,decide_eq_true (by omega)⟩
noncomputable def eqP (a b:D):Bool:=PyData.eqv a.py b.py
noncomputable def oEq (a b:D):Option R:=if okD a=true/\okD b=true then some (.sh (.bl (eqP a b))) else none
noncomputable def oNe (a b:D):Option R:=if okD a=true/\okD b=true then some (.sh (.bl (!eqP a b))) else none
noncomputable def oIn (x c:D):Option R:=match c with
 | .lst ys=>if okD x=true/\okD c=true then some (.sh (.bl (ys.any fun y=>eqP y x))) else none
 | .tup ys=>if okD x=true/\okD c=true then some (.sh (.bl (ys.any fun y=>eqP y x))) else none
 | _=>none
noncomputable def oNotIn (x c:D):Option R:=match c with
 | .lst ys=>if okD x=true/\okD c=true then some (.sh (.bl (!ys.any fun y=>eqP y x))) else none
 | .tup ys=>if okD x=true/\okD c=true then some (.sh (.bl (!ys.any fun y=>eqP y x))) else none
 | _=>none
noncomputable def bh:D->D->Option R
 | .int i,.int j=>some (.sh (.int (i+j)))
 | .lst xs,.lst ys=>if xs.length+ys.length<=big then some (.fr (xs++ys)) else none
 | .str x,.str y=>if x.length+y.length<=big then some (.sh (.str (x++y))) else none
 | _,_=>none
noncomputable def oSub:D->D->Option R
 | .int i,.int j=>some (.sh (.int (i-j)))
 | _,_=>none
noncomputable def cr:D->D->Option R
 | .int i,.int j=>if (-(2 ^ 64)<i/\i<2 ^ 64)\/(-(2 ^ 64)<j/\j<2 ^ 64) then some (.sh (.int (i*j))) else none
 | .lst xs,.int k=>if k<=1000/\-1000<=k/\xs.length*k.toNat<=big then some (.fr (List.replicate k.toNat xs).flatten) else none
 | _,_=>none
noncomputable def oMod:D->D->Option R
 | .int i,.int j=>if 0<j then some (.sh (.int (i % j))) else none
 | _,_=>none
noncomputable def oLt:D->D->Option R
 | .int i,.int j=>some (.sh (.bl (decide (i<j))))
 | _,_=>none
noncomputable def oLe:D->D->Option R
 | .int i,.int j=>some (.sh (.bl (decide (i<=j))))
 | _,_=>none
noncomputable def oGt:D->D->Option R
 | .int i,.int j=>some (.sh (.bl (decide (j<i))))
 | _,_=>none
noncomputable def oGe:D->D->Option R
 | .int i,.int j=>some (.sh (.bl (decide (j<=i))))
 | _,_=>none
noncomputable def oIx:D->D->Option R
 | .lst xs,.int i=>(atI xs i).map .sh
 | .tup xs,.int i=>(atI xs i).map .sh
 | _,_=>none
noncomputable def aV:D->Option R
 | .lst xs=>some (.sh (.int xs.length))
 | .tup xs=>some (.sh (.int xs.length))
 | .str x=>if x.length<=big then some (.sh (.int x.length)) else none
 | _=>none
noncomputable def dI:D->Option R
 | .lst xs=>some (.fr xs)
 | .tup xs=>some (.fr xs)
 | _=>none
noncomputable def dJ:D->D->Option R
 | .int i,.int j=>some (.sh (.int (if j<i then j else i)))
 | _,_=>none
noncomputable def fg:D->D->Option R
 | .int i,.int j=>some (.sh (.int (if j>i then j else i)))
 | _,_=>none
theorem gu:∀ ds:List D,pys ds=ds.map D.py
 | []=>by unfold pys;rfl
 | d::ds=>by unfold pys;rw [gu ds];rfl
section
variable {X:Cx}
theorem op_oEq (hu:X.A.units+64<cLine):OpR X (compareOp .Eq) (rD oEq):=by
 intro pins s σ H x y v u Q I rx ry h;obtain ⟨Hs,a,b,r,S,va,vb,e,K⟩:=h;unfold oEq at e;by_cases hc:okD a=true/\okD b=true
 ·rw [if_pos hc] at e;cases e;obtain ⟨as,ra⟩:=bx I S a (bP hc.1).1 va rx;obtain ⟨bs,rb⟩:=bx I S b (bP hc.2).1 vb ry;exact SeqAt.compareEq_shaped ra rb (iE hc.1) (iE hc.2) hu ⟨.bl _,H,I,rfl,K _ Hs H (.refl S) (shB _ _ _ _)⟩
 ·rw [if_neg hc] at e;cases e
theorem op_oNe (hu:X.A.units+64<cLine):OpR X (compareOp .NotEq) (rD oNe):=by
 intro pins s σ H x y v u Q I rx ry h;obtain ⟨Hs,a,b,r,S,va,vb,e,K⟩:=h;unfold oNe at e;by_cases hc:okD a=true/\okD b=true
 ·rw [if_pos hc] at e;cases e;obtain ⟨as,ra⟩:=bx I S a (bP hc.1).1 va rx;obtain ⟨bs,rb⟩:=bx I S b (bP hc.2).1 vb ry;exact SeqAt.compareNe_shaped ra rb (iE hc.1) (iE hc.2) hu ⟨.bl _,H,I,rfl,K _ Hs H (.refl S) (shB _ _ _ _)⟩
 ·rw [if_neg hc] at e;cases e
theorem jA {ys:List D} (h:okD (.lst ys)=true):PyData.canLayAll0 (pys ys)=true/\PyData.depthAll (pys ys)<=16:=by
 obtain ⟨_,h1,h2⟩:=bP h;unfold D.py at h1 h2;unfold PyData.canLay0 at h1;unfold PyData.depth at h2;exact ⟨h1,by omega⟩
theorem lD {ys:List D} (h:okD (.tup ys)=true):PyData.canLayAll0 (pys ys)=true/\PyData.depthAll (pys ys)<=16:=by
 obtain ⟨_,h1,h2⟩:=bP h;unfold D.py at h1 h2;unfold PyData.canLay0 at h1;unfold PyData.depth at h2;exact ⟨h1,by omega⟩
theorem lE (x:D) (ys:List D):((pys ys).any fun y=>PyData.eqv y x.py)=ys.any fun y=>eqP y x:=by
 rw [gu,List.any_map];rfl
theorem op_oIn (hu:X.A.units+64<cLine):OpR X (compareOp .In) (rD oIn):=by
 intro pins s σ H x y v u Q I rx ry h;obtain ⟨Hs,a,b,r,S,va,vb,e,K⟩:=h;have room:∀ ys:List PyData,PyData.depthAll ys<=16->X.A.units+1+min (PyData.depthAll ys) a.py.depth<cLine:=fun ys hy=>by
  have:min (PyData.depthAll ys) a.py.depth<=PyData.depthAll ys:=Nat.min_le_left _ _;omega
 cases b with
 | lst ys=>
  unfold oIn at e;by_cases hc:okD a=true/\okD (.lst ys)=true
  ·simp only [if_pos hc] at e;cases e;obtain ⟨as,ra⟩:=bx I S a (bP hc.1).1 va rx;obtain ⟨bs,rb⟩:=bx I S _ (bP hc.2).1 vb ry;unfold D.py at rb;refine SeqAt.in_list_reads rb ra (jA hc.2).1 (bP hc.1).2.1 (room _ (jA hc.2).2) ⟨.bl _,H,I,rfl,?_⟩;rw [lE];exact K _ Hs H (.refl S) (shB _ _ _ _)
  ·simp only [if_neg hc] at e;cases e
 | tup ys=>
  unfold oIn at e;by_cases hc:okD a=true/\okD (.tup ys)=true
  ·simp only [if_pos hc] at e;cases e;obtain ⟨as,ra⟩:=bx I S a (bP hc.1).1 va rx;obtain ⟨bs,rb⟩:=bx I S _ (bP hc.2).1 vb ry;unfold D.py at rb;refine SeqAt.in_tuple_reads rb ra (lD hc.2).1 (bP hc.1).2.1 (room _ (lD hc.2).2) ⟨.bl _,H,I,rfl,?_⟩;rw [lE];exact K _ Hs H (.refl S) (shB _ _ _ _)
  ·simp only [if_neg hc] at e;cases e
 | _=>cases e
theorem op_oNotIn (hu:X.A.units+64<cLine):OpR X (compareOp .NotIn) (rD oNotIn):=by
 intro pins s σ H x y v u Q I rx ry h;obtain ⟨Hs,a,b,r,S,va,vb,e,K⟩:=h;have room:∀ ys:List PyData,PyData.depthAll ys<=16->X.A.units+1+min (PyData.depthAll ys) a.py.depth<cLine:=fun ys hy=>by
  have:min (PyData.depthAll ys) a.py.depth<=PyData.depthAll ys:=Nat.min_le_left _ _;omega
 cases b with
 | lst ys=>
  unfold oNotIn at e;by_cases hc:okD a=true/\okD (.lst ys)=true
  ·simp only [if_pos hc] at e;cases e;obtain ⟨as,ra⟩:=bx I S a (bP hc.1).1 va rx;obtain ⟨bs,rb⟩:=bx I S _ (bP hc.2).1 vb ry;unfold D.py at rb;refine SeqAt.notIn_list_reads rb ra (jA hc.2).1 (bP hc.1).2.1 (room _ (jA hc.2).2) ⟨.bl _,H,I,rfl,?_⟩;rw [lE];exact K _ Hs H (.refl S) (shB _ _ _ _)
  ·simp only [if_neg hc] at e;cases e
 | tup ys=>
  unfold oNotIn at e;by_cases hc:okD a=true/\okD (.tup ys)=true
  ·simp only [if_pos hc] at e;cases e;obtain ⟨as,ra⟩:=bx I S a (bP hc.1).1 va rx;obtain ⟨bs,rb⟩:=bx I S _ (bP hc.2).1 vb ry;unfold D.py at rb;refine SeqAt.notIn_tuple_reads rb ra (lD hc.2).1 (bP hc.1).2.1 (room _ (lD hc.2).2) ⟨.bl _,H,I,rfl,?_⟩;rw [lE];exact K _ Hs H (.refl S) (shB _ _ _ _)
  ·simp only [if_neg hc] at e;cases e
 | _=>cases e
theorem bq:OpR X (binaryOp .Add) (rD bh):=by
 intro pins s σ H x y v u Q I rx ry h;obtain ⟨Hs,a,b,r,S,va,vb,e,K⟩:=h
 match a,b,e,va,vb with
 | .int i,.int j,e,va,vb=>
  cases e;exact op_add pins s σ H x y v u Q I rx ry ⟨i,j,va.int,vb.int,K _ Hs H (.refl S) (shI _ _ _ _)⟩
 | .lst xs,.lst ys,e,va,vb=>
  by_cases hc:xs.length+ys.length<=big
  ·simp only [bh,if_pos hc] at e;cases e;obtain ⟨a,vs,ea,h1,h2⟩:=va.lst S;obtain ⟨b,us,eb,h3,h4⟩:=vb.lst S;refine op_cat pins s σ H x y v u Q I rx ry ⟨a,b,vs,us,ea,eb,h1,h3,?_,fun p hp=>?_⟩
   ·rw [h2.length,h4.length];exact Nat.le_of_lt (bS hc)
   ·exact K (.ref p) Hs _ (.fresh S hp) ⟨p,_,rfl,hp,S.free hp,aB,h2.append h4⟩
  ·simp only [bh,if_neg hc] at e;cases e
 | .str i,.str j,e,va,vb=>
  by_cases hc:i.length+j.length<=big
  ·simp only [bh,if_pos hc] at e;cases e;exact rk pins s σ H x y v u Q I rx ry ⟨i,j,va.str,vb.str,Nat.le_of_lt (bS hc),K _ Hs H (.refl S) (shS _ _ _ _)⟩
  ·simp only [bh,if_neg hc] at e;cases e
theorem o0:OpR X (binaryOp .Sub) (rD oSub):=by
 intro pins s σ H x y v u Q I rx ry h;obtain ⟨Hs,a,b,r,S,va,vb,e,K⟩:=h
 match a,b,e,va,vb with
 | .int i,.int j,e,va,vb=>
  cases e;exact op_sub pins s σ H x y v u Q I rx ry ⟨i,j,va.int,vb.int,K _ Hs H (.refl S) (shI _ _ _ _)⟩
theorem iF:OpR X (binaryOp .Mod) (rD oMod):=by
 intro pins s σ H x y v u Q I rx ry h;obtain ⟨Hs,a,b,r,S,va,vb,e,K⟩:=h
 match a,b,e,va,vb with
 | .int i,.int j,e,va,vb=>
  by_cases hc:0<j
  ·simp only [oMod,if_pos hc] at e;cases e;exact op_mod pins s σ H x y v u Q I rx ry ⟨i,j,va.int,vb.int,hc,K _ Hs H (.refl S) (shI _ _ _ _)⟩
  ·simp only [oMod,if_neg hc] at e;cases e
theorem eS:OpR X (binaryOp .Mult) (rD cr):=by
 intro pins s σ H x y v u Q I rx ry h;obtain ⟨Hs,a,b,r,S,va,vb,e,K⟩:=h
 match a,b,e,va,vb with
 | .int i,.int j,e,va,vb=>
  by_cases hc:(-(2 ^ 64)<i/\i<2 ^ 64)\/(-(2 ^ 64)<j/\j<2 ^ 64)
  ·simp only [cr,if_pos hc] at e;cases e;exact op_mul pins s σ H x y v u Q I rx ry ⟨i,j,va.int,vb.int,hc,K _ Hs H (.refl S) (shI _ _ _ _)⟩
  ·simp only [cr,if_neg hc] at e;cases e
 | .lst xs,.int k,e,va,vb=>
  by_cases hc:k<=1000/\-1000<=k/\xs.length*k.toNat<=big
  ·simp only [cr,if_pos hc] at e;cases e;obtain ⟨a,vs,ea,h1,h2⟩:=va.lst S;have rr:∀ n:Nat,aC Hs (List.replicate n xs).flatten (List.replicate n vs).flatten:=fun n=>by
    induction n with
    | zero=>exact .nil
    | succ n ih=>rw [List.replicate_succ,List.replicate_succ,List.flatten_cons,List.flatten_cons];exact h2.append ih
   refine op_rep pins s σ H x y v u Q I rx ry ⟨a,k,vs,ea,vb.int,h1,by omega,by omega,?_,fun p hp=>?_⟩
   ·rw [h2.length];exact Nat.le_of_lt (bS hc.2.2)
   ·exact K (.ref p) Hs _ (.fresh S hp) ⟨p,_,rfl,hp,S.free hp,aB,rr _⟩
  ·simp only [cr,if_neg hc] at e;cases e
theorem bC:OpR X (compareOp .Lt) (rD oLt):=by
 intro pins s σ H x y v u Q I rx ry h;obtain ⟨Hs,a,b,r,S,va,vb,e,K⟩:=h
 match a,b,e,va,vb with
 | .int i,.int j,e,va,vb=>cases e;exact op_lt pins s σ H x y v u Q I rx ry ⟨i,j,va.int,vb.int,K _ Hs H (.refl S) (shB _ _ _ _)⟩
theorem kd:OpR X (compareOp .LtE) (rD oLe):=by
 intro pins s σ H x y v u Q I rx ry h;obtain ⟨Hs,a,b,r,S,va,vb,e,K⟩:=h
 match a,b,e,va,vb with
 | .int i,.int j,e,va,vb=>cases e;exact op_le pins s σ H x y v u Q I rx ry ⟨i,j,va.int,vb.int,K _ Hs H (.refl S) (shB _ _ _ _)⟩
theorem ja:OpR X (compareOp .Gt) (rD oGt):=by
 intro pins s σ H x y v u Q I rx ry h;obtain ⟨Hs,a,b,r,S,va,vb,e,K⟩:=h
 match a,b,e,va,vb with
 | .int i,.int j,e,va,vb=>cases e;exact op_gt pins s σ H x y v u Q I rx ry ⟨i,j,va.int,vb.int,K _ Hs H (.refl S) (shB _ _ _ _)⟩
theorem op_oGe:OpR X (compareOp .GtE) (rD oGe):=by
 intro pins s σ H x y v u Q I rx ry h;obtain ⟨Hs,a,b,r,S,va,vb,e,K⟩:=h
 match a,b,e,va,vb with
 | .int i,.int j,e,va,vb=>cases e;exact op_ge pins s σ H x y v u Q I rx ry ⟨i,j,va.int,vb.int,K _ Hs H (.refl S) (shB _ _ _ _)⟩
theorem ql {H:Hp} {ds:List D} {vs:List V} {i:Int} {d:D} (r:aC H ds vs) (h:atI ds i=some d):∃ v,atI vs i=some v/\Rep H d v:=by
 unfold atI at h ⊢;rw [r.length];cases e:ixN ds.length i with
 | none=>rw [e] at h;cases h
 | some j=>
  rw [e] at h;exact r.get h
theorem ix_oIx:IxR X (rD oIx):=by
 intro value slice pins s σ H x y v u Q I rx ry h hs;obtain ⟨Hs,a,b,r,S,va,vb,e,K⟩:=h
 match a,b,e,va,vb with
 | .lst xs,.int i,e,va,vb=>
  cases ea:atI xs i with
  | none=>simp only [oIx,ea] at e;cases e
  | some d=>
   simp only [oIx,ea] at e;cases e;obtain ⟨a,vs,eq,h1,h2⟩:=va.lst S;obtain ⟨w,q1,q2⟩:=ql h2 ea;exact oQ value slice pins s σ H x y v u Q I rx ry ⟨a,vs,i,w,eq,vb.int,.of h1,q1,K w Hs H (.refl S) q2⟩ hs
 | .tup xs,.int i,e,va,vb=>
  cases ea:atI xs i with
  | none=>simp only [oIx,ea] at e;cases e
  | some d=>
   simp only [oIx,ea] at e;cases e;obtain ⟨a,vs,eq,h1,h2⟩:=va.tup S;obtain ⟨w,q1,q2⟩:=ql h2 ea;exact ix_tup value slice pins s σ H x y v u Q I rx ry ⟨a,vs,i,w,eq,vb.int,.of h1,q1,K w Hs H (.refl S) q2⟩ hs
theorem c_len:ce X (.builtin "len") (rC1 aV):=by
 intro pins s σ H xs us Q I rv h;obtain ⟨x,rfl,Hs,d,r,S,vd,e,K⟩:=h
 match d,e,vd with
 | .lst ds,e,vd=>
  cases e;obtain ⟨a,vs,eq,h1,h2⟩:=vd.lst S;exact gr pins s σ H _ us Q I rv ⟨a,vs,by rw [eq],.inl (.of h1),by rw [h2.length];exact K _ Hs H (.refl S) (shI _ _ _ _)⟩
 | .tup ds,e,vd=>
  cases e;obtain ⟨a,vs,eq,h1,h2⟩:=vd.tup S;exact gr pins s σ H _ us Q I rv ⟨a,vs,by rw [eq],.inr (.of h1),by rw [h2.length];exact K _ Hs H (.refl S) (shI _ _ _ _)⟩
 | .str z,e,vd=>
  by_cases hc:z.length<=big
  ·simp only [aV,if_pos hc] at e;cases e;exact oS pins s σ H _ us Q I rv ⟨z,by rw [vd.str],Nat.le_of_lt (bS hc),K _ Hs H (.refl S) (shI _ _ _ _)⟩
  ·simp only [aV,if_neg hc] at e;cases e
theorem fH:ce X (.type "list") (rC1 dI):=by
 intro pins s σ H xs us Q I rv h;obtain ⟨x,rfl,Hs,d,r,S,vd,e,K⟩:=h
 match d,e,vd with
 | .lst ds,e,vd=>
  cases e;obtain ⟨a,vs,eq,h1,h2⟩:=vd.lst S;exact jt pins s σ H _ us Q I rv ⟨a,vs,by rw [eq],.inl (.of h1),fun p hp=>K _ Hs _ (.fresh S hp) ⟨p,vs,rfl,hp,S.free hp,aB,h2⟩⟩
 | .tup ds,e,vd=>
  cases e;obtain ⟨a,vs,eq,h1,h2⟩:=vd.tup S;exact jt pins s σ H _ us Q I rv ⟨a,vs,by rw [eq],.inr (.of h1),fun p hp=>K _ Hs _ (.fresh S hp) ⟨p,vs,rfl,hp,S.free hp,aB,h2⟩⟩
theorem ke (hc:X.calm=true):ce X (.builtin "min") (rC2 dJ):=by
 intro pins s σ H xs us Q I rv h;obtain ⟨x,y,rfl,Hs,a,b,r,S,va,vb,e,K⟩:=h
 match a,b,e,va,vb with
 | .int i,.int j,e,va,vb=>
  cases e;exact call_min2 hc pins s σ H _ us Q I rv ⟨i,j,by rw [va.int,vb.int],K _ Hs H (.refl S) (shI _ _ _ _)⟩
theorem md (hc:X.calm=true):ce X (.builtin "max") (rC2 fg):=by
 intro pins s σ H xs us Q I rv h;obtain ⟨x,y,rfl,Hs,a,b,r,S,va,vb,e,K⟩:=h
 match a,b,e,va,vb with
 | .int i,.int j,e,va,vb=>
  cases e;exact call_max2 hc pins s σ H _ us Q I rv ⟨i,j,by rw [va.int,vb.int],K _ Hs H (.refl S) (shI _ _ _ _)⟩
end
noncomputable def me (sc:Scope) (No N:List Str) (m:Nat) (ix:List Nat) (scope:Scope):Bool:=
 scope.kind==.function&&scope.names.all (fun y=>!(y.2==.cell))&&scope.names.all (fun y=>!(y.2==.local)||scope.names.lookup y.1==some .local)&&N.length==m+ix.length&&
 scope.names.all (fun y=>!(y.2==.free)||(sc.names.lookup y.1==some .cell||sc.names.lookup y.1==some .free))&&
 (List.range ix.length).all fun j=>match ix[j]?,N[m+j]? with
  | some i,some x=>No[i]?==some x&&scope.names.lookup x==some .free
  | _,_=>false
theorem kf {X:Cx} {sc:Scope} {No N:List Str} {m:Nat} {ix:List Nat} {scope:Scope} (h1:X.env.scope=sc) (h2:X.N=No) (h:me sc No N m ix scope=true):dQ X N m ix scope:=by
 unfold me at h;simp only [um] at h;obtain ⟨⟨⟨⟨⟨a,b⟩,c⟩,d⟩,e⟩,f⟩:=h;refine ⟨by simpa using a,fun y hy z=>?_,fun y hy z=>?_,by simpa using d,fun y hy z=>?_,fun j i x hi hx=>?_⟩
 ·have:=List.all_eq_true.mp b y hy;simp [z] at this
 ·have:=List.all_eq_true.mp c y hy;simpa [z] using this
 ·have:=List.all_eq_true.mp e y hy;show X.env.scope.names.lookup y.1=_\/X.env.scope.names.lookup y.1=_;rw [h1];simpa [z] using this
 ·have hj:j<ix.length:=(List.getElem?_eq_some_iff.mp hi).1;have:=List.all_eq_true.mp f j (List.mem_range.mpr hj);rw [hi,hx] at this;simp only [um] at this;rw [h2];exact ⟨by simpa using this.1,by simpa using this.2⟩
theorem hu64 {A:Around} {k:Nat} (hr:bG k A):A.units+64<cLine:=by have:=hr.un;omega
section
variable {X:Cx}
theorem ae {i:Int} {j:Nat} {pos:Pos}:DE X (.Constant (.int i) j pos) (ac (.int i)):=oW pe_int fun H=>by unfold Rep;rfl
theorem bu {b:Bool} {j:Nat} {pos:Pos}:DE X (.Constant (.bool b) j pos) (ac (.bl b)):=oW pe_bl fun H=>by unfold Rep;rfl
theorem o2 {j:Nat} {pos:Pos}:DE X (.Constant .none j pos) (ac .non):=oW pe_non fun H=>by unfold Rep;rfl
noncomputable def bls:List D->Option (List Bool)
 | []=>some []
 | .bl b::r=>(bls r).map (b::·)
 | _=>none
theorem o3 {H:Hp}:∀ {ds:List D} {bs:List Bool} {vs:List V} {us:List Value},bls ds=some bs->aC H ds vs->aQ vs us->PyProof.Rows.LSm.BoolsAre us bs
 | [],bs,vs,us,e,r,q=>by
  unfold bls at e;cases e;unfold aC at r;subst r;cases q;exact .nil
 | d::ds,bs,vs,us,e,r,q=>by
  match d,e with
  | .bl b,e=>
   unfold bls at e;cases eb:bls ds with
   | none=>rw [eb] at e;cases e
   | some t=>
    rw [eb] at e;cases e;unfold aC at r;obtain ⟨v,vr,rfl,r1,r2⟩:=r;unfold Rep at r1;subst r1;cases q with
    | cons q1 q2=>
     cases q1;exact .cons b (o3 eb r2 q2)
noncomputable def iN:D->Option R
 | .lst ds=>(bls ds).map fun bs=>.sh (.bl (bs.all id))
 | _=>none
noncomputable def k7:D->Option R
 | .lst ds=>(bls ds).map fun bs=>.sh (.bl (bs.any id))
 | _=>none
theorem kept_it {s:Shared} {h':Heap} {o:Obj} (hk:∀ b x,b∉[s.heap.objs.size]->(s.heap.push o).get? b=some x->h'.get? b=some x):∀ b x,s.heap.get? b=some x->h'.get? b=some x:=
 fun b x e=>hk b x (fun hm=>by rw [List.mem_singleton.mp hm] at e;exact Nat.lt_irrefl _ (Heap.lt_size e)) (Heap.get?_push_of_some _ e)
theorem c_all (hc:X.calm=true):ce X (.builtin "all") (rC1 iN):=by
 intro pins s σ H xs us Q I rv h;obtain ⟨x,rfl,Hs,d,r,S,vd,e,K⟩:=h
 match d,e,vd with
 | .lst ds,e,vd=>
  cases eb:bls ds with
  | none=>simp only [iN,eb] at e;cases e
  | some bs=>
   simp only [iN,eb] at e;cases e;obtain ⟨a,vs,eq,h1,h2⟩:=vd.lst S;subst eq;obtain ⟨u,rfl,ru⟩:=rv.one;cases (show u=Value.ref a from ru);obtain ⟨its,rw',pl,hz⟩:=I.list (SqL.of (K:=X.K) h1);have hb:=o3 eb h2 rw';have hl:=pl.isList;have hh:X.A.handled=none:=I.ok.hd hc;have vk:a<s.heap.objs.size:=by obtain ⟨_,e,_⟩:=hl;exact Heap.lt_size e
   refine call_all_walk (wpAny_pyIter_list hl ?_);refine ⟨s.heap.objs.size,[s.heap.objs.size,a],[s.heap.objs.size],its.toArray.size,_,_,fun i=>(bs[i]?).getD true,rfl,Walks.list (A:=X.A.in1) hh _ a (Nat.ne_of_lt vk) its.toArray,
    ⟨⟨_,Heap.get?_push_size _ rfl,rfl,rfl⟩,hl.push _⟩,fun i v s' Q' E' hP hQ=>?_,fun h' tk hk=>?_⟩
   ·obtain ⟨b,e,rfl⟩:=hb.get i v (by simpa using hP);simp only [e,Option.getD_some] at hQ;exact wpAny_truthy_bool hQ
   ·have e:((List.range its.toArray.size).all fun i=>(bs[i]?).getD true)=bs.all id:=by
     rw [List.size_toArray,hb.length];exact PyProof.Rows.LSm.range_all bs
    rw [e];exact ⟨.bl _,H,I.kept (kept_it hk),rfl,K _ Hs H (.refl S) (shB _ _ _ _)⟩
theorem c_any (hc:X.calm=true):ce X (.builtin "any") (rC1 k7):=by
 intro pins s σ H xs us Q I rv h;obtain ⟨x,rfl,Hs,d,r,S,vd,e,K⟩:=h
 match d,e,vd with
 | .lst ds,e,vd=>
  cases eb:bls ds with
  | none=>simp only [k7,eb] at e;cases e
  | some bs=>
   simp only [k7,eb] at e;cases e;obtain ⟨a,vs,eq,h1,h2⟩:=vd.lst S;subst eq;obtain ⟨u,rfl,ru⟩:=rv.one;cases (show u=Value.ref a from ru);obtain ⟨its,rw',pl,hz⟩:=I.list (SqL.of (K:=X.K) h1);have hb:=o3 eb h2 rw';have hl:=pl.isList;have hh:X.A.handled=none:=I.ok.hd hc;have vk:a<s.heap.objs.size:=by obtain ⟨_,e,_⟩:=hl;exact Heap.lt_size e
   refine call_any_walk (wpAny_pyIter_list hl ?_);refine ⟨s.heap.objs.size,[s.heap.objs.size,a],[s.heap.objs.size],its.toArray.size,_,_,fun i=>(bs[i]?).getD false,rfl,Walks.list (A:=X.A.in1) hh _ a (Nat.ne_of_lt vk) its.toArray,
    ⟨⟨_,Heap.get?_push_size _ rfl,rfl,rfl⟩,hl.push _⟩,fun i v s' Q' E' hP hQ=>?_,fun h' tk hk=>?_⟩
   ·obtain ⟨b,e,rfl⟩:=hb.get i v (by simpa using hP);simp only [e,Option.getD_some] at hQ;exact wpAny_truthy_bool hQ
   ·have e:((List.range its.toArray.size).any fun i=>(bs[i]?).getD false)=bs.any id:=by
     rw [List.size_toArray,hb.length];exact PyProof.Rows.LSm.range_any bs
    rw [e];exact ⟨.bl _,H,I.kept (kept_it hk),rfl,K _ Hs H (.refl S) (shB _ _ _ _)⟩
noncomputable def nums:List D->Option (List Int)
 | []=>some []
 | .int i::r=>(nums r).map (i::·)
 | _=>none
theorem hJ {H:Hp}:∀ {ds:List D} {ns:List Int} {vs:List V} {us:List Value},nums ds=some ns->aC H ds vs->aQ vs us->IntsAre us ns
 | [],bs,vs,us,e,r,q=>by
  unfold nums at e;cases e;unfold aC at r;subst r;cases q;exact .nil
 | d::ds,bs,vs,us,e,r,q=>by
  match d,e with
  | .int b,e=>
   unfold nums at e;cases eb:nums ds with
   | none=>rw [eb] at e;cases e
   | some t=>
    rw [eb] at e;cases e;unfold aC at r;obtain ⟨v,vr,rfl,r1,r2⟩:=r;unfold Rep at r1;subst r1;cases q with
    | cons q1 q2=>
     obtain ⟨t,rfl⟩:=q1;exact .cons b t (hJ eb r2 q2)
theorem kg {H:Hp}:∀ {ns:List Int} {us:List Value},IntsAre us ns->aQ (ns.map V.int) us/\aC H (ns.map D.int) (ns.map V.int)
 | _,_,.nil=>⟨.nil,.nil⟩
 | _,_,.cons n t h=>by
  obtain ⟨a,b⟩:=kg (H:=H) h;exact ⟨.cons ⟨t,rfl⟩ a,.cons (by unfold Rep;rfl) b⟩
noncomputable def best (p:Int->Int->Bool):List Int->Option Int
 | []=>none
 | a::r=>some (r.foldl (fun m x=>if p x m then x else m) a)
theorem best_max:∀ {ns:List Int} {m:Int},m∈ns->(∀ a,a∈ns->a<=m)->best (fun x m=>decide (m<x)) ns=some m:=by
 have go:∀ (r:List Int) (a m:Int),(m=a\/m∈r)->a<=m->(∀ x∈r,x<=m)->r.foldl (fun m x=>if decide (m<x) then x else m) a=m:=by
  intro r
  induction r with
  | nil=>intro a m h _ _;rcases h with h | h;exact h.symm;cases h
  | cons y r ih=>
   intro a m h ha hx;rw [List.foldl_cons];by_cases hy:a<y
   ·simp only [hy,decide_true,if_true];refine ih y m ?_ (hx y List.mem_cons_self) fun x hx'=>hx x (uf _ hx');rcases h with h | h
    ·have:=hx y List.mem_cons_self;omega
    ·rcases List.mem_cons.mp h with h | h
     ·exact .inl h
     ·exact .inr h
   ·simp only [hy,decide_false,Bool.false_eq_true,if_false];refine ih a m ?_ ha fun x hx'=>hx x (uf _ hx');rcases h with h | h
    ·exact .inl h
    ·rcases List.mem_cons.mp h with h | h
     ·left;omega
     ·exact .inr h
 intro ns m hm hle;cases ns with
 | nil=>cases hm
 | cons a r=>
  show some (r.foldl (fun m x=>if decide (m<x)=true then x else m) a)=some m;rw [go r a m (List.mem_cons.mp hm) (hle a List.mem_cons_self) fun x hx=>hle x (uf _ hx)]
noncomputable def kF:D->Option R
 | .lst ds=>(nums ds).bind fun ns=>(best (fun x m=>decide (m<x)) ns).map fun m=>.sh (.int m)
 | _=>none
theorem un_list {pins:List (Addr×Obj)} {σ:St} {H Hs:Hp} {s:Shared} (I:L2.Inv X pins σ H s) (S:aO Hs H) {ds:List D} {x:V} {us:List Value} (vd:View Hs H (.lst ds) x) (rv:aQ [x] us) :
  ∃ a vs its,us=[.ref a]/\x=.ref a/\H a=some (.lst vs)/\aC Hs ds vs/\aQ vs its/\PySem.PlainL s.heap a its.toArray/\vs.length<=sizeLine:=by
 obtain ⟨a,vs,eq,h1,h2⟩:=vd.lst S;subst eq;obtain ⟨u,rfl,ru⟩:=rv.one;cases (show u=Value.ref a from ru);obtain ⟨its,rw',pl,hz⟩:=I.list (SqL.of (K:=X.K) h1);exact ⟨a,vs,its,rfl,rfl,h1,h2,rw',pl,hz⟩
end
section
variable {X:Cx}
noncomputable def cutD (xs:List D) (lo hi:Option Int):List D:=(xs.drop (HT.sIx xs.length 0 lo)).take (HT.sIx xs.length xs.length hi-HT.sIx xs.length 0 lo)
theorem qm {H:Hp} {ds:List D} {vs:List V} (lo hi:Option Int) (r:aC H ds vs):aC H (cutD ds lo hi) (cutV vs lo hi):=by
 unfold cutD cutV;rw [r.length];exact (r.drop _).take _
abbrev FO:=DSt->Option (Option Int)
noncomputable def tDO (f:FO):TO:=fun σ H Q=>∃ Hs δ o,aO Hs H/\fB Hs H δ σ/\f δ=some o/\∀ Hs' H',Wd H Hs Hs' H'->Q o H'
structure DO (X:Cx) (e:Option Expr) (f:FO):Prop where
 go:PO X e (tDO f)
theorem _root_.L2.PO.weak {X:Cx} {e:Option Expr} {t t':TO} (h:PO X e t) (w:∀ σ H Q,t' σ H Q->t σ H Q):PO X e t':=fun pins s σ H Q I q=>h pins s σ H Q I (w σ H Q q)
noncomputable def eG:FO:=fun _=>some none
noncomputable def bJ (f:FE):FO:=fun δ=>(f δ).bind fun r=>match r with
 | .sh (.int i)=>some (some i)
 | _=>none
theorem iG:DO X none eG:=.mk <| po_none.weak fun σ H Q ⟨Hs,δ,o,S,En,e,K⟩=>by
 cases e;exact K Hs H (.refl S)
theorem ej {e:Expr} {f:FE} (h:DE X e f):DO X (some e) (bJ f):=.mk <| (po_some h.go).weak fun σ H Q ⟨Hs,δ,o,S,En,e,K⟩=>by
 unfold bJ at e;cases ef:f δ with
 | none=>rw [ef] at e;cases e
 | some r=>
  rw [ef] at e;refine ⟨Hs,δ,r,S,En,ef,fun x uq H1 W1 R1=>?_⟩
  match r,e,R1 with
  | .sh (.int i),e,R1=>
   cases e;have R1:Rep uq (.int i) x:=R1;unfold Rep at R1;exact ⟨i,R1,K uq H1 W1⟩
noncomputable def bV (f:FE) (fl fh:FO):FE:=fun δ=>(f δ).bind fun r=>(fl δ).bind fun lo=>(fh δ).bind fun hi=>match r.view with
 | .lst ds=>some (.fr (cutD ds lo hi))
 | _=>none
theorem fj {e:Expr} {lo hi:Option Expr} {f:FE} {fl fh:FO} {p2 pos:Pos} (he:DE X e f) (hl:DO X lo fl) (hh:DO X hi fh):DE X (.Subscript e (.Slice lo hi none p2) pos) (bV f fl fh):=.mk <|
 (qb sl_list he.go hl.go hh.go).weak fun σ H Q ⟨Hs,δ,r,S,En,e,K⟩=>by
  unfold bV at e;cases ef:f δ with
  | none=>rw [ef] at e;cases e
  | some rf=>
   cases el:fl δ with
   | none=>rw [ef,el] at e;cases e
   | some lo=>
    cases eh:fh δ with
    | none=>rw [ef,el,eh] at e;cases e
    | some hi=>
     rw [ef,el,eh] at e;refine ⟨Hs,δ,rf,S,En,ef,fun x uq H1 W1 R1=>⟨uq,δ,lo,W1.sub,En.mono W1,el,fun uv H2 W2=>⟨uv,δ,hi,W2.sub,En.mono (W1.trans W2),eh,fun Hs3 H3 W3=>?_⟩⟩⟩;have vw:=((R1.mono W2).mono W3).view;replace e:(match rf.view with
      | .lst ds=>some (R.fr (cutD ds lo hi))
      | _=>none)=some r:=e
     cases hv:rf.view with
     | lst ds=>
      rw [hv] at e vw;cases e;obtain ⟨a,vs,rfl,h1,h2⟩:=vw.lst W3.sub;have W13:=W1.trans (W2.trans W3);exact ⟨a,vs,rfl,.of h1,fun p hp=>K _ Hs3 _ (W13.trans (.fresh W3.sub hp)) ⟨p,_,rfl,W13.keep.free hp,W3.sub.free hp,aB,qm lo hi h2⟩⟩
     | _=>rw [hv] at e;cases e
noncomputable def gv (ns:List Int):List Int:=ns.foldl step_dedup []
theorem rC (ns:List Int):firstMet (fun i=>ns.getD i 0) ns.length=gv ns:=by
 unfold firstMet gv;congr 1;refine List.ext_getElem? fun i=>?_;rw [List.getElem?_map];by_cases hi:i<ns.length
 ·rw [List.getElem?_range hi];simp [List.getD,hi]
 ·rw [List.getElem?_eq_none (by simpa using hi),List.getElem?_eq_none (by simpa using hi)];rfl
theorem c_setS (hc:X.calm=true):ce X (.type "set") (fun xs H Q=>∃ p vs ns Hs ds,xs=[.ref p]/\H p=some (.lst vs)/\aC Hs ds vs/\nums ds=some ns/\ns.length<=1000/\∀ l,H l=none->Q (.ref l) (L2.upd H l (.set (fun k=>(gv ns).any (·==k)) (gv ns).length))):=by
 intro pins s σ H xs us Q I rv h;obtain ⟨p,vs,ns,Hs,ds,rfl,h1,h2,e,hz,q⟩:=h;obtain ⟨u,rfl,ru⟩:=rv.one;cases (show u=Value.ref p from ru);obtain ⟨its,rw',pl,hz'⟩:=I.list (SqL.of (K:=X.K) h1);have hi:=hJ e h2 rw';have hl:=hi.length;refine PySem.call_set_list (I.ok.hd hc) pl.isList (by simpa using hi) (by
  rw [List.size_toArray,hl];show ns.length+1<4096;omega) fun h' tk hs hk=>?_
 have hsz:its.toArray.size=ns.length:=by rw [List.size_toArray,hl]
 rw [hsz,rC] at hs;have k:∀ b u,s.heap.get? b=some u->h'.get? b=some u:=fun b u e=>hk b u (Heap.lt_size e) e;exact ⟨.ref s.heap.objs.size,_,I.laid (t':=tk) (o:=.set (fun k=>(gv ns).any (·==k)) (gv ns).length) k (Nat.le_refl _) hs,rfl,q _ (I.hok.fresh (Nat.le_refl _))⟩
theorem c_lenS:ce X (.builtin "len") (fun xs H Q=>∃ p S n,xs=[.ref p]/\H p=some (.set S n)/\Q (.int n) H):=by
 intro pins s σ H xs us Q I rv h;obtain ⟨p,S,n,rfl,h1,q⟩:=h;obtain ⟨u,rfl,ru⟩:=rv.one;cases (show u=Value.ref p from ru);obtain ⟨o,es,ep,t,ho,hex,hd,_,_,hsc,hf,hn⟩:=(show s.heap.SetOf (intKind X.prog X.w) p S n from I.hok p _ h1);have:(es.size:Int)<2 ^ 63:=by
  have:es.size<4096:=hsc;omega
 refine call_len_set ho hex hd hf this ?_;rw [hn];exact ⟨.int n,H,I.tok _,⟨_,rfl⟩,q⟩
noncomputable def cT (f:FE):FE:=fun δ=>(f δ).bind fun r=>match r.view with
 | .lst ds=>(nums ds).bind fun ns=>if ns.length<=1000 then some (.sh (.int (gv ns).length)) else none
 | _=>none
theorem fZ {e:Expr} {f:FE} {p1 p2 pos1 pos2:Pos} (hc:X.calm=true) (he:DE X e f) (hg:Gl X "len") (hm:X.mg "len" = none) (hg2:Gl X "set") (hm2:X.mg "set" = none)
  (hs:starEach [e] X.env=[(false,eval e X.env)]:=by rfl)
  (hs2:starEach [.Call (.Name "set" p2) [e] [] pos2] X.env=[(false,eval (.Call (.Name "set" p2) [e] [] pos2) X.env)]:=by rfl) :
  DE X (.Call (.Name "len" p1) [.Call (.Name "set" p2) [e] [] pos2] [] pos1) (cT f):=.mk <|
 (fV c_lenS hg hm PySem.boot_len (bM (fW (c_setS hc) hg2 hm2 boot_set (bM he.go cX hs) (he:=hs)) cX hs2) (he:=hs2)).weak fun σ H Q ⟨Hs,δ,r,S,En,e,K⟩=>by
  unfold cT at e;cases ef:f δ with
  | none=>rw [ef] at e;cases e
  | some rf=>
   rw [ef] at e;refine ⟨Hs,δ,rf,S,En,ef,fun x uq H1 W1 R1=>?_⟩;have vw:=R1.view;replace e:(match rf.view with
    | .lst ds=>(nums ds).bind fun ns=>if ns.length<=1000 then some (R.sh (.int (gv ns).length)) else none
    | _=>none)=some r:=e
   cases hv:rf.view with
   | lst ds=>
    rw [hv] at e vw;replace e:((nums ds).bind fun ns=>if ns.length<=1000 then some (R.sh (.int (gv ns).length)) else none)=some r:=e;cases en:nums ds with
    | none=>rw [en] at e;cases e
    | some ns=>
     rw [en] at e;replace e:(if ns.length<=1000 then some (R.sh (.int (gv ns).length)) else none)=some r:=e;by_cases hz:ns.length<=1000
     ·rw [if_pos hz] at e;cases e;obtain ⟨a,vs,rfl,h1,h2⟩:=vw.lst W1.sub;exact ⟨a,vs,ns,uq,ds,rfl,h1,h2,en,hz,fun l hl=>⟨l,_,_,rfl,aB,K _ uq _ (W1.trans (.fresh W1.sub hl)) (shI _ _ _ _)⟩⟩
     ·rw [if_neg hz] at e;cases e
   | _=>rw [hv] at e;cases e
noncomputable def srt (ns:List Int):List Int:=ns.mergeSort (fun a b=>decide (a<=b))
theorem srt_eq {ns ns':List Int} (p:ns'.Perm ns) (s:ns'.Pairwise (·<=·)):ns'=srt ns:=by
 have p2:(srt ns).Perm ns:=List.mergeSort_perm _ _;have s2:(srt ns).Pairwise (·<=·):=by
  have:=List.pairwise_mergeSort (le:=fun (a b:Int)=>decide (a<=b)) (fun a b c h1 h2=>by simp at *;omega) (fun a b=>by simp;omega) ns;exact this.imp (fun h=>by simpa using h)
 exact List.Perm.eq_of_pairwise (fun a b _ _ h1 h2=>Int.le_antisymm h1 h2) s s2 (p.trans p2.symm)
noncomputable def eu:D->Option R
 | .lst ds=>(nums ds).bind fun ns=>if ns.length<64 then some (.fr ((srt ns).map .int)) else none
 | _=>none
theorem mf:ce X (.builtin "sorted") (rC1 eu):=by
 intro pins s σ H xs us Q I rv h;obtain ⟨x,rfl,Hs,d,r,S,vd,e,K⟩:=h
 match d,e,vd with
 | .lst ds,e,vd=>
  cases eb:nums ds with
  | none=>simp only [eu,eb] at e;cases e
  | some ns=>
   by_cases hz:ns.length<64
   ·simp only [eu,eb,Option.bind,if_pos hz] at e;cases e;obtain ⟨a,vs,its,rfl,rfl,h1,h2,rw',pl,hz'⟩:=un_list I S vd rv;have hi:=hJ eb h2 rw';refine sorted_ints pl.isList hi (by rw [hi.length];exact hz) fun out ns' a1 a2 a3=>?_;have en:=srt_eq a2 a3;subst en;obtain ⟨ep,he⟩:=PyProof.Rows.sortedAll_at s.heap its out;obtain ⟨q1,q2⟩:=kg (H:=Hs) a1;have k:∀ b u,s.heap.get? b=some u->(sortedAll s.heap its out).get? b=some u:=fun _ _=>PyProof.Rows.sortedAll_old;have hp:H (s.heap.objs.size+1)=none:=I.hok.fresh (Nat.le_succ _);refine ⟨.ref (s.heap.objs.size+1),_,I.laid (t':=s.toks) (o:=.lst ((srt ns).map V.int)) k (Nat.le_succ _) ⟨?_,out.toList,ep,q1,by simpa using he⟩,rfl,K _ Hs _ (.fresh S hp) ⟨_,_,rfl,hp,S.free hp,aB,q2⟩⟩;rw [uk,a2.length_eq];exact Nat.le_of_lt (bS (Nat.le_trans (Nat.le_of_lt hz) (by decide)))
   ·simp only [eu,eb,Option.bind,if_neg hz] at e;cases e
theorem c_max1 (hc:X.calm=true):ce X (.builtin "max") (rC1 kF):=by
 intro pins s σ H xs us Q I rv h;obtain ⟨x,rfl,Hs,d,r,S,vd,e,K⟩:=h
 match d,e,vd with
 | .lst ds,e,vd=>
  cases eb:nums ds with
  | none=>simp only [kF,eb] at e;cases e
  | some ns=>
   obtain ⟨a,vs,its,rfl,rfl,h1,h2,rw',pl,hz'⟩:=un_list I S vd rv;have hi:=hJ eb h2 rw';cases ns with
   | nil=>simp only [kF,eb,Option.bind,best] at e;cases e
   | cons n0 nr=>
    obtain ⟨ys,hx⟩:=hi.allInts.items;have hns:n0::nr=ys.toList.map (·.1):=by rw [<-hi.numsOf,<-nums_intItems,<-hx]
    have hsz:0<ys.size:=by
     have:=congrArg List.length hns;simp at this;omega
    have hl:s.heap.IsList a (intItems ys):=hx▸pl.isList;refine max_intList (I.ok.hd hc) hl hsz fun v h' tk hv hk=>?_;obtain ⟨t,rfl⟩:=intItems_at hv;obtain ⟨q1,q2⟩:=argBest_gt (numAt ys) (ys.size-1);have mem:∀ j,j<ys.size->numAt ys j∈n0::nr:=fun j hj=>by
     rw [hns];unfold numAt;simp only [Array.getElem?_eq_getElem hj,Option.map_some,Option.getD_some];exact List.mem_map.mpr ⟨ys[j],by simp,rfl⟩
    have eb2:best (fun x m=>decide (m<x)) (n0::nr)=some (numAt ys (argBest (fun i j=>decide (numAt ys i>numAt ys j)) (ys.size-1))):=by
     refine best_max (mem _ (by omega)) fun b hb=>?_;rw [hns] at hb;obtain ⟨y,hy,rfl⟩:=List.mem_map.mp hb;obtain ⟨j,hj,rfl⟩:=Array.mem_iff_getElem.mp (by simpa using hy);have:=q2 j (by omega);unfold numAt at this ⊢;simpa [hj] using this
    simp only [kF,eb,Option.bind,eb2] at e;cases e;exact ⟨.int _,H,I.kept hk,⟨_,rfl⟩,K _ Hs H (.refl S) (shI _ _ _ _)⟩
end
end Ew
end
section
namespace L2
open PySem PySem.Spec PyProof.Rows
section
variable {X:Cx} {pins:List (Addr×Obj)} {σ:List (Option V)} {H H':Hp} {s:Shared} {h':Heap}
theorem Inv.turnNew {t':Nat} {ch:List Addr} {p:Addr} {o:HO} (I:Inv X pins σ H s) (hp:s.heap.objs.size<=p) (k:∀ b u,b∉ch->s.heap.get? b=some u->h'.get? b=some u) (hf:∀ b∈ch,FpOk X pins H b)
  (new:cN X.prog X.w (upd H p o) h' p o):Inv X pins σ (upd H p o) { s with heap:=h',toks:=t' }:=by
 have hn:H p=none:=I.hok.fresh hp;have nch:∀ b u,H b=some u->b∉ch:=fun b u e z=>by rw [(hf b z).1] at e;cases e
 refine I.step (g':=s.gens) (d':=s.drawn) (ch:=ch) (fun b hb=>⟨(hf b hb).2.2.2.1,(hf b hb).2.1,(hf b hb).2.2.2.2.1,(hf b hb).2.2.2.2.2⟩) (fun b u _ _ hc e _=>k b u hc e) (fun b u _ _ hc e _=>⟨u.slots,k b u hc e⟩)
  (fun b u _ e n=>by rw [aD (Nat.ne_of_lt (Nat.lt_of_lt_of_le (Heap.lt_size e) hp))];exact n) (fun b u hc e=>⟨u,k b u hc e⟩)
  (fun b xs e=>by rw [aD (aK e hn)];exact e) (fun b u xs e=>by rw [aD (aK e hn)];exact e) (fun b ps e=>⟨#[],by rw [aD (aK e hn),e];simp⟩) (fun m hm=>?_) (fun b u e=>?_) I.bare
 ·obtain ⟨ob,es,ep,ho,r⟩:=hm;exact ⟨ob,es,ep,k _ ob (fun z=>(hf _ z).2.1 rfl) ho,r⟩
 ·by_cases hb:b=p
  ·subst hb;rw [aB] at e;cases e;exact new
  ·rw [aD hb] at e;refine (I.hok b u e).stay (fun c v hc q=>k c v ?_ q) (fun c q=>by rw [aD (aK q hn)];exact q) fun c xs q=>by rw [aD (aK q hn)];exact q
   rcases hc with z | z
   ·rw [z];exact nch b u e
   ·exact nch c _ z
theorem Inv.turnedL {t':Nat} {ch:List Addr} (I:Inv X pins σ H s) (k:∀ b u,b∉ch->s.heap.get? b=some u->h'.get? b=some u) (hf:∀ b∈ch,FpOk X pins H b):Inv X pins σ H { s with heap:=h',toks:=t' }:=by
 have nch:∀ b u,H b=some u->b∉ch:=fun b u e z=>by rw [(hf b z).1] at e;cases e
 refine I.step (g':=s.gens) (d':=s.drawn) (ch:=ch) (fun b hb=>⟨(hf b hb).2.2.2.1,(hf b hb).2.1,(hf b hb).2.2.2.2.1,(hf b hb).2.2.2.2.2⟩) (fun b u _ _ hc e _=>k b u hc e) (fun b u _ _ hc e _=>⟨u.slots,k b u hc e⟩)
  (fun b u _ e n=>n) (fun b u hc e=>⟨u,k b u hc e⟩)
  (fun b xs e=>e) (fun b u xs e=>e) (fun b ps e=>⟨#[],by rw [e];simp⟩) (fun m hm=>?_) (fun b u e=>?_) I.bare
 ·obtain ⟨ob,es,ep,ho,r⟩:=hm;exact ⟨ob,es,ep,k _ ob (fun z=>(hf _ z).2.1 rfl) ho,r⟩
 ·refine (I.hok b u e).stay (fun c v hc q=>k c v ?_ q) (fun c q=>q) fun c xs q=>q;rcases hc with z | z
  ·rw [z];exact nch b u e
  ·exact nch c _ z
end
noncomputable def two_line:(2:Nat)<=sizeLine:=by rw [sizeLine_eq];decide
section
variable {X:Cx} {elts:List Expr} {k:Nat} {tp:Pos}
noncomputable def Ite (K:Frag) (a:Addr):It:=
 ⟨fun i H=>∃ xs x,SqL K H a xs/\xs[i]?=some x,
  fun i H v H'=>∃ p x,v=.ref p/\H p=none/\H'=upd H p (.tup [.int i,x])/\∀ xs,SqL K H a xs->xs[i]?=some x,
  fun i H=>∃ xs,SqL K H a xs/\xs.length<=i⟩
theorem turn_enum {P:Program} {w:World} {K:Frag} (a e it:Addr) (vj:e≠it) :
  Turn P w K (.Tuple elts k tp) (Ite K a) [e,it] e (fun i h=>(∃ old,IsEnum h e it i old)/\h.IsListIter it a i) where
 mem:=by simp
 obj:=fun i h st c hc=>by
  obtain ⟨⟨old,he⟩,⟨o1,e1,c1,d1⟩⟩:=st;simp at hc;rcases hc with rfl | rfl
  ·exact ⟨_,he,fun v z=>by cases (show Data.fields _=Data.cell v from z)⟩
  ·exact ⟨o1,e1,fun v z=>by rw [d1] at z;cases z⟩
 keep:=fun i h h' st k=>by
  obtain ⟨⟨old,he⟩,h1⟩:=st;exact ⟨⟨old,k e (by simp) _ he⟩,h1.at fun o e=>k it (by simp) o e⟩
 item:=by
  intro X hP hw hK hc i pins s σ H E I hf st hg;subst hP hw hK;obtain ⟨⟨old,he⟩,h1⟩:=st;obtain ⟨xs,x,hqa,hx⟩:=hg;obtain ⟨its1,rv1,p1,hz1⟩:=I.list hqa;obtain ⟨u1,hu1,ru1⟩:=rv1.get hx;refine wpAny_pyNext_enum_item he h1 p1.isList (x:=u1) (by simpa using hu1) vj fun h' a1 a2 a3 a4 hk=>?_;have hsz:e<s.heap.objs.size:=Heap.lt_size he;refine ⟨_,rfl,wpAny_letOwnedTupleGo_enum a1 fun h'' hz'' hs''=>?_⟩;have keep:∀ c o,c∉[e,it]->s.heap.get? c=some o->h''.get? c=some o:=fun c o hc e'=>by
   simp at hc;exact hs''.extBut c o hc.1 (hk c o hc.1 hc.2 e')
  have tup:h''.get? s.heap.objs.size=some { cls:=.type "tuple",data:=.seq #[.int i s.toks,u1] }:=hs''.extBut _ _ (Nat.ne_of_gt hsz) a3;have hn:H s.heap.objs.size=none:=I.hok.fresh (Nat.le_refl _);refine ⟨.ref s.heap.objs.size,upd H s.heap.objs.size (.tup [.int i,x]),I.turnNew (t':=s.toks+1) (ch:=[e,it]) (Nat.le_refl _) keep hf ?_,rfl,⟨_,x,rfl,hn,rfl,fun zs hzs=>by rw [I.list_inj hzs hqa];exact hx⟩,?_,fun c hc=>?_⟩
  ·exact ⟨two_line,[.int i s.toks,u1],.cons ⟨_,rfl⟩ (.cons ru1 .nil),⟨_,tup,rfl,_,rfl⟩⟩
  ·exact ⟨⟨_,by simpa using hz''⟩,a2.extBut hs''.extBut (Ne.symm vj)⟩
  ·have:c≠s.heap.objs.size:=by
    obtain ⟨o,ho,_⟩ : ∃ o,s.heap.get? c=some o/\True:=by
     simp at hc;rcases hc with rfl | rfl
     ·exact ⟨_,he,trivial⟩
     ·obtain ⟨o,e,_⟩:=h1;exact ⟨o,e,trivial⟩
    exact Nat.ne_of_lt (Heap.lt_size ho)
   rw [aD this];exact (hf c hc).1
 done:=by
  intro X hP hw hK hc i pins s σ H E I hf st hg;subst hP hw hK;obtain ⟨⟨old,he⟩,h1⟩:=st;obtain ⟨xs,hqa,hend⟩:=hg;obtain ⟨its1,rv1,p1,hz1⟩:=I.list hqa;have l1:=rv1.length;exact wpAny_pyNext_enum_end (I.ok.hd hc) he h1 p1.isList (by simp;omega) fun h' hk=>⟨rfl,I.turnedL (t':=s.toks) (ch:=[e,it]) (fun c o hc' e'=>by
    simp at hc';exact hk c o hc'.2 e') hf⟩
 self:=fun _ _ _ _ _ st h=>by obtain ⟨⟨old,he⟩,_⟩:=st;exact wpAny_pyIter_enum he h
noncomputable def iEnum (K:Frag) (ta:TA):TI:=fun σ H R=>ta σ H fun vs H1=>∃ a xs,vs=[.ref a]/\H1 a=some (.lst xs)/\R (Ite K a) H1
theorem pi_enum {a:Expr} {ta:TA} {p pos:Pos} (hg:Gl X "enumerate") (hm:X.mg "enumerate" = none) (ha:PA X [a] ta) (hs:starEach [a] X.env=[(false,eval a X.env)]:=by rfl) :
  PI X (.Tuple elts k tp) (.Call (.Name "enumerate" p) [a] [] pos) (iEnum X.K ta):=by
 intro pins s σ H R I h;refine Call_ (lQ I hg hm boot_enumerate (callWith_type1 (thn (ha pos pins s σ H _ I h) fun us s1 ⟨vs,H1,I1,r1,q1⟩=>?_) hs rfl));obtain ⟨x,xs,e,hx,q⟩:=q1;subst e;cases r1 with
 | cons r rr=>
  cases rr;cases r;obtain ⟨z,its,n,rv,eo⟩:=I1.hok x _ hx;refine call_enumerate_1 eo fun h' a1 a2 a3 kk=>?_;refine wpAny_pyIter_enum a1 ?_;refine ⟨_,_,_,_,H1,rfl,I1.kept (t':=s1.toks) kk,turn_enum x (s1.heap.objs.size+1) s1.heap.objs.size (Nat.succ_ne_self _),⟨⟨_,a1⟩,a2⟩,fun c hc=>?_,q⟩;have:s1.heap.objs.size<=c:=by
   simp at hc;rcases hc with rfl | rfl <;> omega
  exact I1.fpOk this (I1.hok.fresh this)
end
end L2
namespace Ew
open PySem PySem.Spec L2
section
variable {X:Cx} {elts:List Expr} {k:Nat} {tp:Pos}
noncomputable def izip (fa:DSt->Option (List R)):DSt->Option (List D):=fun δ=>(fa δ).bind fun rs=>match rs with
 | [r,s]=>if r.isBw=true\/s.isBw=true then none else match r.view,s.view with
  | .lst xs,.lst ys=>some (List.zipWith (fun x y=>.tup [x,y]) xs ys)
  | _,_=>none
 | _=>none
noncomputable def mh (fa:DSt->Option (List R)):DSt->Option (List D):=fun δ=>(fa δ).bind fun rs=>match rs with
 | [r]=>if r.isBw=true then none else match r.view with
  | .lst xs=>some (List.zipWith (fun (k:Nat) x=>.tup [.int k,x]) (List.range xs.length) xs)
  | _=>none
 | _=>none
theorem rep_tup2 {H:Hp} {p:Addr} {x y:V} {dx dy:D} (h:H p=some (.tup [x,y])) (r1:Rep H dx x) (r2:Rep H dy y):Rep H (.tup [dx,dy]) (.ref p):=by
 unfold Rep;exact ⟨p,_,rfl,h,.cons r1 (.cons r2 .nil)⟩
theorem di_enum {a:Expr} {fa:DSt->Option (List R)} {p pos:Pos} (hg:Gl X "enumerate") (hm:X.mg "enumerate" = none) (ha:DA X [a] fa) (hs:starEach [a] X.env=[(false,eval a X.env)]:=by rfl) :
  DI X (.Tuple elts k tp) (.Call (.Name "enumerate" p) [a] [] pos) (mh fa):=.mk <|
 (pi_enum hg hm ha.go hs).weak fun σ H R0 ⟨Hs,δ,items,S,En,e,K⟩=>by
  unfold mh at e;cases ef:fa δ with
  | none=>rw [ef] at e;cases e
  | some rs=>
   rw [ef] at e;refine ⟨Hs,δ,rs,S,En,ef,fun vs uq H1 W1 R1=>?_⟩
   match rs,e,R1 with
   | [r],e,⟨v,t,ev,q1,q2⟩=>
    have q2:t=[]:=q2;subst q2;subst ev;by_cases hb:r.isBw=true
    ·simp only [Option.bind,if_pos hb] at e;cases e
    ·simp only [Option.bind,if_neg hb] at e;obtain ⟨uv,q,W2⟩:=q1.share W1 (fun ds z=>hb (by rw [z];rfl));cases hr:r.view with
     | lst xs=>
      rw [hr] at e q;cases e;unfold Rep at q;obtain ⟨a1,us1,rfl,g1,g2⟩:=q;refine ⟨a1,us1,rfl,W2.sub _ _ g1,K _ uv H1 W2 ?_⟩;intro i Hs5 H5 S1 S2;have hH1:=S2 _ _ (S1 _ _ g1);refine ⟨fun d hd=>?_,fun hl=>⟨us1,.of hH1,by rw [g2.length];simpa using hl⟩⟩;rw [List.getElem?_zipWith] at hd;cases ex:xs[i]? with
      | none=>rw [ex] at hd;simp at hd
      | some dx=>
       have hi:i<xs.length:=(List.getElem?_eq_some_iff.mp ex).1;rw [ex,List.getElem?_range hi] at hd;simp at hd;subst hd;obtain ⟨w1,hw1,rw1⟩:=g2.get ex;refine ⟨⟨us1,w1,.of hH1,hw1⟩,fun x H' yl=>?_⟩;obtain ⟨pp,x1,rfl,hpp,rfl,z1⟩:=yl;have z1:=z1 us1 (.of hH1);rw [hw1] at z1;cases z1;have nw:aO Hs5 (L2.upd Hs5 pp (.tup [.int i,w1])):=.new (S2.free hpp);exact ⟨L2.upd Hs5 pp (.tup [.int i,w1]),.lay S2 hpp,rep_tup2 aB (by unfold Rep;rfl) (Rep.mono (S1.trans nw) _ rw1)⟩
     | _=>rw [hr] at e;cases e
end
theorem StR.upd {H0 uw Hs H:Hp} {δ:DSt} {σ:St} {i:Nat} {ds ds':List D} {a:Addr} {vs vs':List V} (W:Wd H0 uw Hs H) (S:StR H0 Hs H δ σ) (q:δ[i]?=some (some (.ow ds))) (hv:σ[i]?=some (some (.ref a)))
  (h1:H a=some (.lst vs)) (m:Hs a=none) (r:aC Hs ds' vs'):Wd H0 uw Hs (L2.upd H a (.lst vs'))/\StR H0 Hs (L2.upd H a (.lst vs')) (δ.set i (some (.ow ds'))) σ:=by
 have:=S.upG (Hs':=Hs) (H':=L2.upd H a (.lst vs')) (e':=.ow ds') (v':=.ref a) W q hv (fun b o n e=>by
  have:b≠a:=fun z=>n (by rw [z];rfl);rw [aD this];exact e) (fun b o e=>by rw [aD (aK e m)];exact W.sub _ _ e) (.refl _) (fun _ _ e=>.inl e) ⟨a,vs',rfl,m,aB,r⟩ (fun b f=>.inl f)
 rw [set_same hv] at this;exact this
noncomputable def de (i:Nat) (f:FE):FS:=fun δ=>match δ[i]? with
 | some (some (.ow ds))=>(f δ).bind fun r=>if r.isBw=true then none else if ds.length<=big then some (.nx (δ.set i (some (.ow (ds++[r.view]))))) else none
 | _=>none
noncomputable def k8 (i:Nat) (f:FE):FS:=fun δ=>match δ[i]? with
 | some (some (.ow ds))=>(f δ).bind fun r=>match r.view with
  | .lst es=>if ds.length+es.length<=big then some (.nx (δ.set i (some (.ow (ds++es))))) else none
  | _=>none
 | _=>none
section
variable {X:Cx} {e:Expr} {f:FE}
theorem cE {i:Nat} {x:Str} {xp apos cpos pos:Pos} (hx:PE X (.Name x xp) (iY i)) (he:DE X e f)
  (uy:attributeBase (.Name x xp) "append" X.env (eval (.Name x xp) X.env)=eval (.Name x xp) X.env:=by rfl)
  (vc:((backTo cpos (starEach [e] X.env)).all (fun x=>!x.1)&&(backToKw cpos (keywordEach [] X.env)).all (fun x=>x.1.isSome)
   &&decide ([e].length+([]:List Keyword).length+(if ([]:List Keyword).isEmpty then 0 else 1)<30))=true:=by rfl)
  (uz:(apos.endLine==cpos.line)=true:=by rfl) (hs:starEach [e] X.env=(false,eval e X.env)::starEach [] X.env:=by rfl)
  (hsw:swapsWith (.Call (.Attribute (.Name x xp) "append" apos) [e] [] cpos) none pos.line X.env=pure false:=by rfl) :
  DS X (.Expr (.Call (.Attribute (.Name x xp) "append" apos) [e] [] cpos) pos) (de i f):=.mk fun H0 uw=>
 (iB (pe_bm plainAttrs_list F.slot_list_append F.type_list_append iC hx (bM he.go cX hs) uy vc uz hs) hsw).weak fun D σ H ⟨Hs,δ,res,W,S,e,P⟩=>by
  unfold de at e;cases q:δ[i]? with
  | none=>rw [q] at e;cases e
  | some o=>
   rw [q] at e
   match o,e with
   | some (.ow ds),e=>
    obtain ⟨v,hv,a,vs,rfl,m,h1,h2⟩:=S.ent i _ q;cases ef:f δ with
    | none=>simp only [ef] at e;cases e
    | some r=>
     simp only [ef,Option.bind] at e;by_cases hb:r.isBw=true
     ·rw [if_pos hb] at e;cases e
     ·rw [if_neg hb] at e;by_cases hz:ds.length<=big
      ·rw [if_pos hz] at e;cases e;refine ⟨_,hv,.inl ⟨rfl,vs,.of h1⟩,Hs,δ,r,W.sub,S.ent,ef,fun y uq H1 W1 R1=>?_⟩;obtain ⟨uv,g,W2⟩:=R1.share W1 (fun ds z=>hb (by rw [z];rfl));have S2:=S.mono W2;refine ⟨a,vs,y,rfl,rfl,W2.keep _ _ h1,?_,?_⟩
       ·rw [h2.length];exact bS hz
       ·obtain ⟨W3,S3⟩:=S2.upd (W.trans W2) q hv (W2.keep _ _ h1) (W2.stay h1 m) ((aC.mono W2.base _ h2).append (.cons g .nil));exact P σ uv _ W3 S3
      ·rw [if_neg hz] at e;cases e
theorem kh {i:Nat} {x:Str} {xp apos cpos pos:Pos} (hx:PE X (.Name x xp) (iY i)) (he:DE X e f)
  (uy:attributeBase (.Name x xp) "extend" X.env (eval (.Name x xp) X.env)=eval (.Name x xp) X.env:=by rfl)
  (vc:((backTo cpos (starEach [e] X.env)).all (fun x=>!x.1)&&(backToKw cpos (keywordEach [] X.env)).all (fun x=>x.1.isSome)
   &&decide ([e].length+([]:List Keyword).length+(if ([]:List Keyword).isEmpty then 0 else 1)<30))=true:=by rfl)
  (uz:(apos.endLine==cpos.line)=true:=by rfl) (hs:starEach [e] X.env=(false,eval e X.env)::starEach [] X.env:=by rfl)
  (hsw:swapsWith (.Call (.Attribute (.Name x xp) "extend" apos) [e] [] cpos) none pos.line X.env=pure false:=by rfl) :
  DS X (.Expr (.Call (.Attribute (.Name x xp) "extend" apos) [e] [] cpos) pos) (k8 i f):=.mk fun H0 uw=>
 (iB (pe_bm plainAttrs_list PySem.F.slot_list_extend PySem.F.type_list_extend mt_extend hx (bM he.go cX hs) uy vc uz hs) hsw).weak fun D σ H ⟨Hs,δ,res,W,S,e,P⟩=>by
  unfold k8 at e;cases q:δ[i]? with
  | none=>rw [q] at e;cases e
  | some o=>
   rw [q] at e
   match o,e with
   | some (.ow ds),e=>
    obtain ⟨v,hv,a,vs,rfl,m,h1,h2⟩:=S.ent i _ q;cases ef:f δ with
    | none=>simp only [ef] at e;cases e
    | some r=>
     simp only [ef,Option.bind] at e;refine ⟨_,hv,.inl ⟨rfl,vs,.of h1⟩,Hs,δ,r,W.sub,S.ent,ef,fun y uq H1 W1 R1=>?_⟩;have vw:=R1.view;cases hr:r.view with
     | lst es=>
      rw [hr] at e vw;replace e:(if ds.length+es.length<=big then some (Res.nx (δ.set i (some (.ow (ds++es))))) else none)=some res:=e;by_cases hz:ds.length+es.length<=big
      ·rw [if_pos hz] at e;cases e;obtain ⟨b,us,rfl,g1,g2⟩:=vw.lst W1.sub;have S2:=S.mono W1;refine ⟨a,b,vs,us,rfl,rfl,W1.keep _ _ h1,g1,?_,?_⟩
       ·rw [h2.length,g2.length];exact Nat.le_of_lt (bS hz)
       ·obtain ⟨W3,S3⟩:=S2.upd (W.trans W1) q hv (W1.keep _ _ h1) (W1.stay h1 m) ((aC.mono W1.base _ h2).append g2);exact P σ uq _ W3 S3
      ·rw [if_neg hz] at e;cases e
     | _=>rw [hr] at e;cases e
noncomputable def k9 (g:Int->Int->Int) (i:Nat) (f:FE):FS:=fun δ=>match δ[i]? with
 | some (some (.sh (.int a)))=>(f δ).bind fun r=>match r with
  | .sh (.int b)=>some (.nx (δ.set i (some (.sh (.int (g a b))))))
  | _=>none
 | _=>none
theorem ds_aug {i:Nat} {x:Str} {op:Operator} {g:Int->Int->Int} {pos pos':Pos} (hN:X.N.Nodup) (hi:X.N[i]?=some x) (hx:Loc X.env.scope x) (he:DE X e f) (ho:PIp X op (ipI g))
  (hf:X.fn x=true\/X.env.scope.names.lookup x=some .local:=by first | exact .inl rfl | exact .inr rfl | assumption):DS X (.AugAssign (.Name x pos') op e pos) (k9 g i f):=.mk fun H0 uw=>
 (ps_aug hN hi hx he.go ho hf).weak fun D σ H ⟨Hs,δ,res,W,S,e,P⟩=>by
  unfold k9 at e;cases q:δ[i]? with
  | none=>rw [q] at e;cases e
  | some o=>
   rw [q] at e
   match o,e with
   | some (.sh (.int a)),e=>
    obtain ⟨v,hv,hr⟩:=S.ent i _ q;have hr:Rep Hs (.int a) v:=hr;unfold Rep at hr;subst hr;refine ⟨_,hv,?_⟩;cases ef:f δ with
    | none=>simp only [ef] at e;cases e
    | some r=>
     simp only [ef,Option.bind] at e;refine ⟨Hs,δ,r,W.sub,S.ent,ef,fun y uq H1 W1 R1=>?_⟩
     match r,e,R1 with
     | .sh (.int b),e,R1=>
      cases e;have R1:Rep uq (.int b) y:=R1;unfold Rep at R1;exact ⟨a,b,rfl,R1,P _ uq H1 (W.trans W1) (S.set (r:=.sh (.int (g a b))) W W1 (shI _ _ _ _) rfl)⟩
end
section
variable {X:Cx}
theorem c_rng1:ce X (.type "range") (fun xs H Q=>∃ j:Int,xs=[.int j]/\∀ r,H r=none->Q (.ref r) (L2.upd H r (.rng 0 j))):=by
 intro pins s σ H xs us Q I rv h;obtain ⟨j,rfl,q⟩:=h;obtain ⟨u,rfl,t,rfl⟩:=rv.one;refine call_range_1 ?_;exact ⟨.ref s.heap.objs.size,_,I.laid (o:=.rng 0 j) (fun b o e=>Heap.get?_push_of_some _ e) (Nat.le_refl _) ⟨_,_,_,Heap.get?_push_size _ rfl⟩,rfl,q _ (I.hok.fresh (Nat.le_refl _))⟩
theorem c_listR (hc:X.calm=true):ce X (.type "list") (fun xs H Q=>∃ r lo hi,xs=[.ref r]/\H r=some (.rng lo hi)/\(-1000000<=lo/\lo<=1000000/\-1000000<=hi/\hi<=1000000)/\
  ∀ l,H l=none->Q (.ref l) (L2.upd H l (.lst ((List.range (hi-lo).toNat).map fun k=>V.int (lo+(k:Nat)))))):=by
 intro pins s σ H xs us Q I rv h;obtain ⟨r,lo,hi,rfl,h1,⟨b1,b2,b3,b4⟩,q⟩:=h;obtain ⟨u,rfl,ru⟩:=rv.one;cases (show u=Value.ref r from ru);obtain ⟨t,u,v,e⟩:=(show ∃ t u v,s.heap.get? r=some { cls:=.type "range",data:=.fields #[.int lo t,.int hi u,.int 1 v] } from I.hok r _ h1);have e2:Builtin.Range.rangeSize lo hi 1=(((hi-lo).toNat:Nat):Int):=by rw [rangeSize_one];split <;> omega
 refine call_list_range (I.ok.hd hc) e (small_one (by omega) (by omega) (by omega) (by omega)) e2 (by omega) fun h' tk acc' c' kk ho hacc=>?_;obtain ⟨hs,hall⟩:=hacc;have hv:aQ ((List.range (hi-lo).toNat).map fun k=>V.int (lo+(k:Nat))) acc'.toList:=by
  have gen:∀ (n:Nat) (a:Int) (l:List Value),l.length=n->(∀ (j:Nat) (v:Value),l[j]?=some v->∃ t,v=Value.int (a+(j:Nat)) t)->aQ ((List.range n).map fun k=>V.int (a+(k:Nat))) l:=by
   intro n
   induction n with
   | zero=>intro a l hl _;rw [List.length_eq_zero_iff.mp hl];exact .nil
   | succ n ih=>
    intro a l hl hall;cases l with
    | nil=>cases hl
    | cons v l=>
     rw [List.range_succ_eq_map,List.map_cons,List.map_map];obtain ⟨t,ht⟩:=hall 0 v rfl;refine .cons ⟨t,by simpa using ht⟩ ?_;have:=ih (a+1) l (by simpa using hl) fun j w hw=>by
      obtain ⟨t,ht⟩:=hall (j+1) w (by simpa using hw);exact ⟨t,by rw [ht];congr 1;push_cast;omega⟩
     have e3:((fun k:Nat=>V.int (a+(k:Nat)))∘Nat.succ)=fun k:Nat=>V.int (a+1+(k:Nat)):=by
      funext k;show V.int _=V.int _;congr 1
      push_cast
      omega
     rw [e3];exact this
  refine gen _ lo acc'.toList (by simpa using hs) fun j v hj=>?_;obtain ⟨t,ht⟩:=hall j v (by simpa using hj);exact ⟨t,by rw [ht];congr 1;omega⟩
 refine ⟨.ref s.heap.objs.size,_,I.laid (t':=tk) (o:=.lst _) kk (Nat.le_refl _) ⟨?_,acc'.toList,c',hv,by simpa using ho⟩,rfl,q _ (I.hok.fresh (Nat.le_refl _))⟩;rw [uk,List.length_range,PySem.sizeLine_eq];omega
noncomputable def rngD (lo hi:Int):Option R:=if -1000000<=lo/\lo<=1000000/\-1000000<=hi/\hi<=1000000 then some (.fr ((List.range (hi-lo).toNat).map fun k=>.int (lo+(k:Nat)))) else none
noncomputable def fk (fa:DSt->Option (List R)):FE:=fun δ=>(fa δ).bind fun rs=>match rs with
 | [.sh (.int j)]=>rngD 0 j
 | _=>none
theorem qo {H:Hp} (lo:Int):∀ l:List Nat,aC H (l.map fun k=>D.int (lo+(k:Nat))) (l.map fun k=>V.int (lo+(k:Nat)))
 | []=>.nil
 | k::l=>.cons (by unfold Rep;rfl) (qo lo l)
theorem rng_end {σ:St} {H Hs uq H1:Hp} {lo hi:Int} {r:R} {Q:VK} (W1:Wd H Hs uq H1) (e:rngD lo hi=some r) (K:∀ v Hs' H',Wd H Hs Hs' H'->di H Hs' H' r v->Q v H') {p:Addr} (hp:H1 p=none) :
  ∃ r' lo' hi',[V.ref p]=[V.ref r']/\(L2.upd H1 p (.rng lo hi)) r'=some (.rng lo' hi')/\(-1000000<=lo'/\lo'<=1000000/\-1000000<=hi'/\hi'<=1000000)/\
   ∀ l,(L2.upd H1 p (.rng lo hi)) l=none->Q (.ref l) (L2.upd (L2.upd H1 p (.rng lo hi)) l (.lst ((List.range (hi'-lo').toNat).map fun k=>V.int (lo'+(k:Nat))))):=by
 unfold rngD at e;by_cases hc:-1000000<=lo/\lo<=1000000/\-1000000<=hi/\hi<=1000000
 ·rw [if_pos hc] at e;cases e;refine ⟨p,lo,hi,rfl,aB,hc,fun l hl=>?_⟩;have W2:Wd H Hs uq (L2.upd H1 p (.rng lo hi)):=W1.trans (.fresh W1.sub hp);exact K _ uq _ (W2.trans (.fresh W2.sub hl)) ⟨l,_,rfl,W2.keep.free hl,W2.sub.free hl,aB,qo lo _⟩
 ·rw [if_neg hc] at e;cases e
theorem kG {a:Expr} {fa:DSt->Option (List R)} {p1 p2 pos1 pos2:Pos} (hc:X.calm=true) (ha:DA X [a] fa) (hg:Gl X "list") (hm:X.mg "list" = none) (hg2:Gl X "range") (hm2:X.mg "range" = none)
  (hs:starEach [a] X.env=[(false,eval a X.env)]:=by rfl)
  (hs2:starEach [.Call (.Name "range" p2) [a] [] pos2] X.env=[(false,eval (.Call (.Name "range" p2) [a] [] pos2) X.env)]:=by rfl) :
  DE X (.Call (.Name "list" p1) [.Call (.Name "range" p2) [a] [] pos2] [] pos1) (fk fa):=.mk <|
 (fW (c_listR hc) hg hm boot_list (bM (fW c_rng1 hg2 hm2 boot_range ha.go (he:=hs)) cX hs2) (he:=hs2)).weak fun σ H Q ⟨Hs,δ,r,S,En,e,K⟩=>by
  unfold fk at e;cases ef:fa δ with
  | none=>rw [ef] at e;cases e
  | some rs=>
   rw [ef] at e;refine ⟨Hs,δ,rs,S,En,ef,fun vs uq H1 W1 R1=>?_⟩
   match rs,e,R1 with
   | [.sh (.int j)],e,⟨v,t,ev,q1,q2⟩=>
    have q2:t=[]:=q2;have q1:Rep uq (.int j) v:=q1;unfold Rep at q1;exact ⟨j,by rw [ev,q1,q2],fun p hp=>rng_end (σ:=σ) W1 e K hp⟩
noncomputable def dS:D->Option R
 | .int i=>some (.sh (.int (-i)))
 | _=>none
theorem fJ {a:Expr} {f:FE} {pos:Pos} (h:DE X a f):DE X (.UnaryOp .USub a pos) (dun dS f):=.mk <| (pe_un un_neg h.go).weak fun σ H Q hh=>by
 obtain ⟨Hs,δ,r,S,En,e,K⟩:=hh;unfold dun at e;cases ef:f δ with
 | none=>rw [ef] at e;cases e
 | some rf=>
  rw [ef] at e;refine ⟨Hs,δ,rf,S,En,ef,fun x uq H1 W1 R1=>?_⟩;have vw:=R1.view;cases hv:rf.view with
  | int i=>
   rw [hv] at vw;simp only [Option.bind,hv,dS] at e;cases e;exact ⟨i,vw.int,K _ uq H1 W1 (shI _ _ _ _)⟩
  | _=>simp only [Option.bind,hv,dS] at e;cases e
end
end Ew
end
section
namespace L2
open PySem PySem.Spec PyProof.Rows
section
variable {X:Cx}
noncomputable def tRev (K:Frag) (te ts:TE):TE:=fun σ H Q=>te σ H fun x H1=>ts σ H1 fun st H2=>st=.int (-1)/\∃ a xs,x=.ref a/\SqL K H2 a xs/\∀ p,H2 p=none->Q (.ref p) (upd H2 p (.lst xs.reverse))
theorem pe_rev {e step:Expr} {te ts:TE} {p2 pos:Pos} (he:PE X e te) (hst:PE X step ts):PE X (.Subscript e (.Slice none none (some step) p2) pos) (tRev X.K te ts):=by
 intro pins s σ H Q I h;refine Subscript_ (thn (he pins s σ H _ I h) fun v s1 ⟨x,H1,I1,r1,q1⟩=>?_);refine wpAny_Slice ?_;rw [evalPart_none];refine uc (uc ?_);rw [evalPart_some];refine thn (hst pins s1 σ H1 _ I1 q1) fun u s2 ⟨y,H2,I2,r2,e2,a,xs,ex,hx,q2⟩=>?_;subst e2;subst ex;cases r1;obtain ⟨t,rfl⟩:=r2;have I4:Inv X pins σ H2 { s2 with heap:=s2.heap.push { cls:=.type "slice",data:=.fields #[.none,.none,.int (-1) t] } }:=I2.kept (t':=s2.toks) fun b ob q=>Heap.get?_push_of_some _ q;obtain ⟨its,r,ht,hz⟩:=I4.list hx;have hlen:=r.length;show wpAny (model X.prog X.w) X.A (subscriptTail e (.Slice none none (some step) p2) (.ref a) (.ref s2.heap.objs.size)) (EP X pins σ Q) X.xe { s2 with heap:=s2.heap.push { cls:=.type "slice",data:=.fields #[.none,.none,.int (-1) t] } };refine tail_any (ops:=[.ref a,.ref s2.heap.objs.size]) ht.isList.typeIs slot_list_getitem.lookup ?_ (by with_unfolding_all rfl);refine wpAny_getItem_list_slice ht.isList (Heap.IsSliceOf.new ..) .none .none (.int (-1) t) (by simp) ?_ (by rw [List.size_toArray] <;> omega);rw [PySem.W.krv_pick];refine ⟨.ref _,_,I4.laid (t':=s2.toks) (o:=.lst xs.reverse) (fun b ob q=>Heap.get?_push_of_some _ q) (Nat.le_refl _) ?_,rfl,q2 _ (I4.hok.fresh (Nat.le_refl _))⟩;exact ⟨by rw [List.length_reverse];exact hz,its.reverse,0,r.reverse,Heap.get?_push_size _ rfl⟩
end
end L2
namespace Ew
open PySem PySem.Spec L2
section
variable {X:Cx}
noncomputable def drev (f fs:FE):FE:=fun δ=>(f δ).bind fun r=>(fs δ).bind fun s=>match r.view,s with
 | .lst ds,.sh (.int (-1))=>some (.fr ds.reverse)
 | _,_=>none
theorem de_rev {e step:Expr} {f fs:FE} {p2 pos:Pos} (he:DE X e f) (hst:DE X step fs):DE X (.Subscript e (.Slice none none (some step) p2) pos) (drev f fs):=.mk <|
 (pe_rev he.go hst.go).weak fun σ H Q ⟨Hs,δ,r,S,En,e,K⟩=>by
  unfold drev at e;cases ef:f δ with
  | none=>rw [ef] at e;cases e
  | some rf=>
   cases es:fs δ with
   | none=>rw [ef,es] at e;cases e
   | some rs=>
    rw [ef,es] at e;refine ⟨Hs,δ,rf,S,En,ef,fun x uq H1 W1 R1=>⟨uq,δ,rs,W1.sub,En.mono W1,es,fun y uv H2 W2 R2=>?_⟩⟩;have vw:=(R1.mono W2).view;cases hv:rf.view with
    | lst ds=>
     rw [hv] at vw
     match rs,e,R2 with
     | .sh (.int k),e,R2=>
      simp only [Option.bind,hv] at e;have R2:Rep uv (.int k) y:=R2;unfold Rep at R2;by_cases hk:k=-1
      ·subst hk;cases e;obtain ⟨a,vs,rfl,h1,h2⟩:=vw.lst W2.sub;have W12:=W1.trans W2;exact ⟨R2,a,vs,rfl,.of h1,fun p hp=>K _ uv _ (W12.trans (.fresh W2.sub hp)) ⟨p,_,rfl,W12.keep.free hp,W2.sub.free hp,aB,h2.reverse⟩⟩
      ·exfalso;revert e;split
       ·rename_i h1 h2;simp at h2;omega
       ·intro z;cases z
     | .sh .non,e,_=>simp only [Option.bind,hv] at e;cases e
     | .sh (.bl _),e,_=>simp only [Option.bind,hv] at e;cases e
     | .sh (.str _),e,_=>simp only [Option.bind,hv] at e;cases e
     | .sh (.lst _),e,_=>simp only [Option.bind,hv] at e;cases e
     | .sh (.tup _),e,_=>simp only [Option.bind,hv] at e;cases e
     | .sh (.obj _ _),e,_=>simp only [Option.bind,hv] at e;cases e
     | .fr _,e,_=>simp only [Option.bind,hv] at e;cases e
     | .bw _,e,_=>simp only [Option.bind,hv] at e;cases e
    | _=>simp only [Option.bind,hv] at e;cases e
inductive TyD (K:Frag):D->Value->Prop where
 | non:TyD K .non (.type "NoneType")
 | bl (x:Bool):TyD K (.bl x) (.type "bool")
 | int (i:Int):TyD K (.int i) (.type "int")
 | str (x:Str):TyD K (.str x) (.type "str")
 | lst (xs:List D):TyD K (.lst xs) (.type "list")
 | tup (xs:List D):TyD K (.tup xs) (.type "tuple")
 | obj {C:Addr} (fs:List (Str×D)) (cl:Cls K C) (ha:findIn K (.ref C) "__class__" = some (some (.builtin "object.__class__")))
  (hn:specialIn K (.builtin "object.__class__") "__get__" = some (some (.builtin "getset_descriptor.__get__"))) (htk:takesIn K (.builtin "object.__class__")=some true)
  (hm:mroIn K C (.type "object")=some true):TyD K (.obj C fs) (.ref C)
theorem TyD.of {K:Frag} {Hs H:Hp} {d:D} {t:Value} {v:V} (S:aO Hs H) (ty:TyD K d t) (h:View Hs H d v):jq K H v t:=by
 cases ty with
 | non=>rw [h.non];exact .non
 | bl x=>rw [h.bl];exact .bl x
 | int i=>rw [h.int];exact .int i
 | str x=>rw [h.str];exact .str x
 | lst xs=>obtain ⟨a,vs,rfl,h1,_⟩:=h.lst S;exact .lst h1
 | tup xs=>obtain ⟨a,vs,rfl,h1,_⟩:=h.tup S;exact .tup h1
 | obj fs cl ha hn htk hm=>obtain ⟨a,dx,fvs,rfl,h1,_⟩:=h.obj S;exact .ins h1 cl ha hn htk hm
theorem RelV.fn {x:V} {u v:Value} (hx:(∃ n,x=.ty n)\/∃ a,x=.ref a) (a:RelV x u) (b:RelV x v):u=v:=by
 rcases hx with ⟨n,rfl⟩ | ⟨n,rfl⟩
 ·cases (show u=Value.type n from a);cases (show v=Value.type n from b);rfl
 ·cases (show u=Value.ref n from a);cases (show v=Value.ref n from b);rfl
theorem c_isinst:ce X (.builtin "isinstance") (fun xs H Q=>∃ x c cu t b,xs=[x,c]/\((∃ n,c=.ty n)\/∃ a,c=.ref a)/\RelV c cu/\jq X.K H x t/\kitOne X.K t cu=some b/\Q (.bl b) H):=by
 intro pins s σ H xs us Q I rv h;obtain ⟨x,c,cu,t,b,rfl,hc,rc,ty,hk,q⟩:=h;obtain ⟨u,u2,rfl,ru,ru2⟩:=rv.two;cases RelV.fn hc rc ru2;exact isinst_ok I ru ty hk fun tk=>⟨.bl b,H,I.tok tk,rfl,q⟩
noncomputable def ax (ans:D->Option Bool) (f:FE):FE:=fun δ=>(f δ).bind fun r=>(ans r.view).map fun b=>.sh (.bl b)
theorem f6 {e c:Expr} {f:FE} {cv:V} {cu:Value} {ans:D->Option Bool} {p pos:Pos} (he:DE X e f) (hc:PE X c (tC cv)) (hcv:(∃ n,cv=.ty n)\/∃ a,cv=.ref a) (rc:RelV cv cu)
  (hk:∀ d b,ans d=some b->∃ t,TyD X.K d t/\kitOne X.K t cu=some b) (hg:Gl X "isinstance") (hm:X.mg "isinstance" = none)
  (hs:starEach [e,c] X.env=(false,eval e X.env)::starEach [c] X.env:=by rfl) (hs2:starEach [c] X.env=(false,eval c X.env)::starEach [] X.env:=by rfl) (hpl:(backTo pos (starEach [c] X.env)).any (·.1)=false:=by rfl) :
  DE X (.Call (.Name "isinstance" p) [e,c] [] pos) (ax ans f):=.mk <|
 (fV c_isinst hg hm PyProof.Rows.boot_isinstance (bM he.go (bM hc cX hs2) hs) (he:=hs) (hpl:=hpl)).weak fun σ H Q ⟨Hs,δ,r,S,En,e,K⟩=>by
  unfold ax at e;cases ef:f δ with
  | none=>rw [ef] at e;cases e
  | some rf=>
   rw [ef] at e;replace e:(ans rf.view).map (fun b=>R.sh (.bl b))=some r:=e;cases ea:ans rf.view with
   | none=>rw [ea] at e;cases e
   | some b=>
    rw [ea] at e;cases e;refine ⟨Hs,δ,rf,S,En,ef,fun x uq H1 W1 R1=>?_⟩;obtain ⟨t,ty,hkk⟩:=hk _ _ ea;exact ⟨x,cv,cu,t,b,rfl,hcv,rc,ty.of W1.sub R1.view,hkk,K _ uq H1 W1 (shB _ _ _ _)⟩
noncomputable def n5 (i j:Nat) (fa fb:FE):FS:=fun δ=>(fa δ).bind fun r=>(fb δ).bind fun t=>r.ent.bind fun e1=>t.ent.bind fun e2=>some (.nx ((δ.set i (some e1)).set j (some e2)))
theorem ds_par {i j:Nat} {x y:Str} {a b:Expr} {fa fb:FE} {px py pt pos:Pos} {kt k2 pt2} (hc:X.calm=true) (hN:X.N.Nodup) (hi:X.N[i]?=some x) (hj:X.N[j]?=some y) (hij:i≠j)
  (hx:X.env.scope.names.lookup x=some .local) (hy:X.env.scope.names.lookup y=some .local) (ha:DE X a fa) (hb:DE X b fb)
  (hw:swappedStores [.Tuple [.Name x px,.Name y py] kt pt] (.Tuple [a,b] k2 pt2) X.env=pure (some [x,y]))
  (hs:swapsWithSole [.Tuple [.Name x px,.Name y py] kt pt] (.Tuple [a,b] k2 pt2) pos.line X.env=pure false:=by rfl)
  (hs1:starEach [a,b] X.env=(false,eval a X.env)::starEach [b] X.env:=by rfl) (hs2:starEach [b] X.env=(false,eval b X.env)::starEach [] X.env:=by rfl) :
  DS X (.Assign [.Tuple [.Name x px,.Name y py] kt pt] (.Tuple [a,b] k2 pt2) pos) (n5 i j fa fb):=.mk fun H0 uw=>
 (ps_par hc hN hi hj hij hx hy (bM ha.go (bM hb.go cX hs2) hs1) hw hs).weak fun D σ H ⟨Hs,δ,res,W,S,e,P⟩=>by
  unfold n5 at e;cases ea:fa δ with
  | none=>rw [ea] at e;cases e
  | some r=>
   cases eb:fb δ with
   | none=>rw [ea,eb] at e;cases e
   | some t=>
    rw [ea,eb] at e;replace e:(r.ent.bind fun e1=>t.ent.bind fun e2=>some (Res.nx ((δ.set i (some e1)).set j (some e2))))=some res:=e;cases er:r.ent with
    | none=>rw [er] at e;cases e
    | some e1=>
     cases et:t.ent with
     | none=>rw [er,et] at e;cases e
     | some e2=>
      rw [er,et] at e;cases e;refine ⟨Hs,δ,r,W.sub,S.ent,ea,fun v uq H1 W1 R1=>⟨uq,δ,t,W1.sub,S.ent.mono W1,eb,fun u uv H2 W2 R2=>?_⟩⟩;refine ⟨v,u,rfl,?_⟩;have W12:=W1.trans W2;have S2:=S.set (i:=i) W W12 (R1.mono W2) er;have S3:StR H0 uv H2 ((δ.set i (some e1)).set j (some e2)) ((σ.set i (some v)).set j (some u)):=by
       have R2':di H1 uv H2 t u:=R2;cases t with
       | sh d=>
        cases et;exact S2.set (i:=j) (r:=.sh d) (W.trans W12) (.refl W2.sub) R2 rfl
       | fr ds=>
        cases et;obtain ⟨p,vs,ep,n1,m,h1,h2⟩:=R2';have S1:=S.set (i:=i) W W1 R1 er;exact S1.set (i:=j) (r:=.fr ds) (W.trans W1) W2 ⟨p,vs,ep,n1,m,h1,h2⟩ rfl
       | bw ds=>cases et
      exact P _ uv H2 (W.trans W12) S3
noncomputable def la (f:FE) (g:GD):FS:=fun δ=>(f δ).bind fun r=>match r with
 | .sh d=>(g d δ).map .nx
 | _=>none
theorem o4 {tg e:Expr} {f:FE} {ks:List Nat} {g:GD} {pos:Pos} (he:DE X e f) (hg:DG X tg ks g) (hs:swapsWithSole [tg] e pos.line X.env=pure false:=by rfl) (hw:swappedStores [tg] e X.env=pure none:=by rfl)
  (h1:(assignEach [tg] X.env).map (·.2)=[assign tg X.env]:=by rfl):DS X (.Assign [tg] e pos) (la f g):=.mk fun H0 uw=>
 (ps_asg he.go hg.go hs hw h1).weak fun D σ H ⟨Hs,δ,res,W,S,e,P⟩=>by
  unfold la at e;cases ea:f δ with
  | none=>rw [ea] at e;cases e
  | some r=>
   rw [ea] at e;refine ⟨Hs,δ,r,W.sub,S.ent,ea,fun v uq H1 W1 R1=>?_⟩
   match r,e,R1 with
   | .sh d,e,R1=>
    replace e:(g d δ).map Res.nx=some res:=e;cases eg:g d δ with
    | none=>rw [eg] at e;cases e
    | some δ'=>
     rw [eg] at e;cases e;have S1:=S.mono W1;exact ⟨uq,δ,d,δ',W1.sub,S1.len,R1,eg,fun σ' sr=>P σ' uq H1 (W.trans W1) (sr.st S1)⟩
end
end Ew
end
section
namespace L2
open PySem PySem.Spec PyProof.Rows
section
variable {X:Cx} {a b c d:Expr} {ta tb tc td:TE} {pos:Pos}
noncomputable def tChain3 (r r' r'':R2) (ta tb tc td:TE):TE:=fun σ H Q=>ta σ H fun x H1=>tb σ H1 fun y H2=>r x y H2 fun z H3=>∃ k,z=.bl k/\
 (if k=true then tc σ H3 fun w H4=>r' y w H4 fun z2 H5=>∃ k2,z2=.bl k2/\(if k2=true then td σ H5 fun w2 H6=>r'' w w2 H6 Q else Q (.bl false) H5) else Q (.bl false) H3)
theorem pe_chain3 {op op' op'':CmpOp} {r r' r'':R2} (ho:OpR X (compareOp op) r) (ho':OpR X (compareOp op') r') (ho'':OpR X (compareOp op'') r'') (ha:PE X a ta) (hb:PE X b tb) (hc:PE X c tc) (hd:PE X d td)
  (hm:lastMarks [op,op',op''] [b,c,d]=false:=by with_unfolding_all rfl):PE X (.Compare a [op,op',op''] [b,c,d] pos) (tChain3 r r' r'' ta tb tc td):=by
 intro pins s σ H Q I h;refine Compare_chain (thn (ha pins s σ H _ I h) fun v s1 ⟨x,H1,I1,r1,q1⟩=>chain_link (thn (hb pins s1 σ H1 _ I1 q1) fun u s2 ⟨y,H2,I2,r2,q2⟩=>
  thn (ho pins s2 σ H2 x y v u _ I2 r1 r2 q2) fun d s3 ⟨z,H3,I3,r3,k,e,q3⟩=>?_)) hm
 subst e;cases r3;refine wpAny_truthy_bool ?_;cases k with
 | false=>exact ite_ff ⟨.bl false,H3,I3,rfl,q3⟩
 | true=>
  refine ite_tt (chain_link (thn (hc pins s3 σ H3 _ I3 q3) fun w' s4 ⟨z',H4,I4,r4,q4⟩=>thn (ho' pins s4 σ H4 y z' u w' _ I4 r2 r4 q4) fun d2 s5 ⟨z2,H5,I5,r5,k2,e2,q5⟩=>?_));subst e2;cases r5;refine wpAny_truthy_bool ?_;cases k2 with
  | false=>exact ite_ff ⟨.bl false,H5,I5,rfl,q5⟩
  | true=>exact ite_tt (chain_last (thn (hd pins s5 σ H5 _ I5 q5) fun w2 s6 ⟨z3,H6,I6,r6,q6⟩=>ho'' pins s6 σ H6 z' z3 w' w2 Q I6 r4 r6 q6))
end
end L2
namespace Ew
open PySem PySem.Spec L2
section
variable {X:Cx} {a b c d:Expr} {fa fb fc fd:FE} {pos:Pos} {o o' o'':D->D->Option R}
noncomputable def jB (o o' o'':D->D->Option R) (fa fb fc fd:FE):FE:=fun δ=>(fa δ).bind fun a=>(fb δ).bind fun b=>(o a.view b.view).bind fun r=>match r with
 | .sh (.bl true)=>(fc δ).bind fun c=>(o' b.view c.view).bind fun r2=>match r2 with
  | .sh (.bl true)=>(fd δ).bind fun d=>o'' c.view d.view
  | .sh (.bl false)=>some (.sh (.bl false))
  | _=>none
 | .sh (.bl false)=>some (.sh (.bl false))
 | _=>none
theorem tD_chain3 {σ:St} {H:Hp} {Q:VK} (h:tD (jB o o' o'' fa fb fc fd) σ H Q):tChain3 (rD o) (rD o') (rD o'') (tD fa) (tD fb) (tD fc) (tD fd) σ H Q:=by
 obtain ⟨Hs,δ,r,S,En,e,K⟩:=h;unfold jB at e;cases ea:fa δ with
 | none=>simp only [ea] at e;cases e
 | some ra=>
  cases eb:fb δ with
  | none=>simp only [ea,eb] at e;cases e
  | some rb=>
   cases eo:o ra.view rb.view with
   | none=>simp only [ea,eb,eo,Option.bind] at e;cases e
   | some ro=>
    simp only [ea,eb,eo,Option.bind] at e;refine ⟨Hs,δ,ra,S,En,ea,fun x uq H1 W1 R1=>⟨uq,δ,rb,W1.sub,En.mono W1,eb,fun y uv H2 W2 R2=>?_⟩⟩;refine ⟨uv,ra.view,rb.view,ro,W2.sub,(R1.mono W2).view,R2.view,eo,fun v Hs3 H3 W3 R3=>?_⟩;have W13:=W1.trans (W2.trans W3)
    match ro,e,R3 with
    | .sh (.bl false),e,R3=>
     cases e;refine ⟨false,unB R3,?_⟩;rw [if_neg Bool.false_ne_true];exact K _ Hs3 H3 W13 (shB _ _ _ _)
    | .sh (.bl true),e,R3=>
     refine ⟨true,unB R3,?_⟩;rw [if_pos rfl];cases ec:fc δ with
     | none=>simp only [ec] at e;cases e
     | some rc=>
      cases eo2:o' rb.view rc.view with
      | none=>simp only [ec,eo2] at e;cases e
      | some ro2=>
       simp only [ec,eo2] at e;refine ⟨Hs3,δ,rc,W3.sub,En.mono W13,ec,fun z Hs4 H4 W4 R4=>?_⟩;refine ⟨Hs4,rb.view,rc.view,ro2,W4.sub,((R2.mono W3).mono W4).view,R4.view,eo2,fun v2 Hs5 H5 W5 R5=>?_⟩;have W15:=W13.trans (W4.trans W5)
       match ro2,e,R5 with
       | .sh (.bl false),e,R5=>
        cases e;refine ⟨false,unB R5,?_⟩;rw [if_neg Bool.false_ne_true];exact K _ Hs5 H5 W15 (shB _ _ _ _)
       | .sh (.bl true),e,R5=>
        refine ⟨true,unB R5,?_⟩;rw [if_pos rfl];cases ed:fd δ with
        | none=>simp only [ed] at e;cases e
        | some rd=>
         simp only [ed] at e;refine ⟨Hs5,δ,rd,W5.sub,En.mono W15,ed,fun z2 Hs6 H6 W6 R6=>?_⟩;refine ⟨Hs6,rc.view,rd.view,r,W6.sub,((R4.mono W5).mono W6).view,R6.view,e,fun v3 Hs7 H7 W7 R7=>?_⟩;exact K v3 Hs7 H7 (W15.trans (W6.trans W7)) (R7.older (W15.keep.trans W6.keep))
theorem de_chain3 {op op' op'':CmpOp} (ho:OpR X (compareOp op) (rD o)) (ho':OpR X (compareOp op') (rD o')) (ho'':OpR X (compareOp op'') (rD o'')) (ha:DE X a fa) (hb:DE X b fb) (hc:DE X c fc) (hd:DE X d fd)
 (hm:lastMarks [op,op',op''] [b,c,d]=false:=by with_unfolding_all rfl):DE X (.Compare a [op,op',op''] [b,c,d] pos) (jB o o' o'' fa fb fc fd):=.mk <| (pe_chain3 ho ho' ho'' ha.go hb.go hc.go hd.go hm).weak fun _ _ _=>tD_chain3
end
structure Df (K:Frag) (mg:Str->Option Value) (x qual:Str) (st:Stmt) (ps:List Str) (f:Addr) (fd:FuncData):Prop where
 fn:Fun K x qual st f fd
 mgx:mg x=some (.ref f)
 bd:Binds K fd ps []
section
variable {X:Cx} {e:Expr} {es:List Expr} {fr:DSt->Option (List R)} {x:Str} {p pos:Pos} {id T:String}
theorem de_u {qual:Str} {st:Stmt} {ps:List Str} {f:Addr} {fd:FuncData} {k n:Nat} {m:List D->Option D} (d:Df X.K X.mg x qual st ps f fd) (G:eM X.prog X.w X.K X.mg X.base CX0 k f fd ps (spD n m)) (hr:bG k X.A) (ha:DA X (e::es) fr)
 (hg:Gl X x:=by rfl) (vp:(x==("__debug__" : Str))=false:=by decide) (he:starEach (e::es) X.env=(false,eval e X.env)::starEach es X.env:=by exact bY rfl) (hpl:(backTo pos (starEach es X.env)).any (·.1)=false:=by rfl) :
 DE X (.Call (.Name x p) (e::es) [] pos) (av n m fr):=.mk <| (oP (E:=E0) G hr hg d.mgx d.fn.kp d.bd .nil lX ha.go vp he hpl).weak fun _ _ _=>tD_call
theorem de_m {C:Addr} {n:Nat} {m:List D->Option D} {fo:FE} (h:PE X e (lV C x (spD n m) [] E0 (tD fo) (tDA fr))):DE X e (bH C x n m fo fr):=.mk <| h.weak fun _ _ _=>tD_meth
theorem de_m0 {C:Addr} {n:Nat} {m:List D->Option D} {fo:FE} (h:PE X e (lV C x (spD n m) [] E0 (tD fo) tNil)):DE X e (bH C x n m fo af):=.mk <| h.weak fun σ H Q hq=>by
 obtain ⟨Hs,δ,r,S,En,e,K⟩:=tD_meth (E:=E0) hq;refine ⟨Hs,δ,r,S,En,e,fun x0 uq H1 W1 R1=>?_⟩;obtain ⟨a,dx,fs,e1,h1,h2,uv,δ2,rs,S2,En2,e2,K2⟩:=K x0 uq H1 W1 R1;refine ⟨a,dx,fs,e1,h1,h2,?_⟩;cases e2;exact K2 [] uv H1 (.refl S2) rfl
theorem jC {o:D->Option R} (hc:ce X (.builtin id) (rC1 o)) (hv:bootBuiltins x=some (.builtin id)) (hm:X.mg x=none) (ha:DA X [e] fr) (hg:Gl X x:=by rfl) (hn:x≠"__name__":=by decide) (vp:(x==("__debug__" : Str))=false:=by decide)
 (he:starEach [e] X.env=(false,eval e X.env)::starEach [] X.env:=by rfl):DE X (.Call (.Name x p) [e] [] pos) (al o fr):=.mk <| (fV hc hg hm hv ha.go hn vp he rfl).weak fun _ _ _=>qh
theorem hV {e2:Expr} {o:D->D->Option R} (hc:ce X (.builtin id) (rC2 o)) (hv:bootBuiltins x=some (.builtin id)) (hm:X.mg x=none) (ha:DA X [e,e2] fr) (hg:Gl X x:=by rfl) (hn:x≠"__name__":=by decide) (vp:(x==("__debug__" : Str))=false:=by decide)
 (he:starEach [e,e2] X.env=(false,eval e X.env)::starEach [e2] X.env:=by rfl) (hpl:(backTo pos (starEach [e2] X.env)).any (·.1)=false:=by rfl):DE X (.Call (.Name x p) [e,e2] [] pos) (aZ o fr):=.mk <| (fV hc hg hm hv ha.go hn vp he hpl).weak fun _ _ _=>tD_call2
theorem iQ {o:D->Option R} (hc:ce X (.type T) (rC1 o)) (hv:bootBuiltins x=some (.type T)) (hm:X.mg x=none) (ha:DA X [e] fr) (hg:Gl X x:=by rfl) (hn:x≠"__name__":=by decide) (vp:(x==("__debug__" : Str))=false:=by decide)
 (he:starEach [e] X.env=(false,eval e X.env)::starEach [] X.env:=by rfl):DE X (.Call (.Name x p) [e] [] pos) (al o fr):=.mk <| (fW hc hg hm hv ha.go hn vp he rfl).weak fun _ _ _=>qh
end
noncomputable def isC (C:Addr):Addr->Bool:=fun a=>a==C
theorem isC_of {C a:Addr} (h:isC C a=true):a=C:=by unfold isC at h;simpa using h
end Ew
namespace Ew
noncomputable def dU:D->Option Bool
 | .int _=>some true
 | .bl _=>some true
 | .obj _ _=>none
 | _=>some false
noncomputable def is_bool:D->Option Bool
 | .bl _=>some true
 | .obj _ _=>none
 | _=>some false
noncomputable def cF:D->Option Bool
 | .lst _=>some true
 | .obj _ _=>none
 | _=>some false
noncomputable def fq:D->Option Bool
 | .tup _=>some true
 | .obj _ _=>none
 | _=>some false
end Ew
end
section
namespace Ew
open PySem PySem.Spec L2
section
variable {δ:DSt} {fa fb fc f:FE} {fr:DSt->Option (List R)} {t u:DSt->Option Bool} {F G:FS}
@[simp] theorem dW (i:Nat):aa i δ=match δ[i]? with
 | some (some (.sh d))=>some (.sh d)
 | some (some (.ow ds))=>some (.bw ds)
 | _=>none:=rfl
@[simp] theorem jb (d:D):ac d δ=some (.sh d):=rfl
@[simp] theorem ki (o:D->D->Option R):ad o fa fb δ=(fa δ).bind fun a=>(fb δ).bind fun b=>o a.view b.view:=rfl
@[simp] theorem dun_e (o:D->Option R):dun o fa δ=(fa δ).bind fun a=>o a.view:=rfl
@[simp] theorem cb:ai f δ=(f δ).bind R.bool:=rfl
@[simp] theorem dchain_e (o o':D->D->Option R):cw o o' fa fb fc δ=(fa δ).bind fun a=>(fb δ).bind fun b=>(o a.view b.view).bind fun r=>match r with
 | .sh (.bl true)=>(fc δ).bind fun c=>o' b.view c.view
 | .sh (.bl false)=>some (.sh (.bl false))
 | _=>none:=rfl
@[simp] theorem dchain3_e {fd:FE} (o o' o'':D->D->Option R):jB o o' o'' fa fb fc fd δ=(fa δ).bind fun a=>(fb δ).bind fun b=>(o a.view b.view).bind fun r=>match r with
 | .sh (.bl true)=>(fc δ).bind fun c=>(o' b.view c.view).bind fun r2=>match r2 with
  | .sh (.bl true)=>(fd δ).bind fun d=>o'' c.view d.view
  | .sh (.bl false)=>some (.sh (.bl false))
  | _=>none
 | .sh (.bl false)=>some (.sh (.bl false))
 | _=>none:=rfl
@[simp] theorem lF:cx t u δ=(t δ).bind fun c=>if c=true then u δ else some false:=rfl
@[simp] theorem mi:bg t u δ=(t δ).bind fun c=>if c=true then some true else u δ:=rfl
@[simp] theorem eT:aP t δ=(t δ).map (!·):=rfl
@[simp] theorem dand_e:g7 fa fb δ=(fa δ).bind fun r=>match r with
 | .sh (.bl true)=>fb δ
 | .sh (.bl false)=>some (.sh (.bl false))
 | _=>none:=rfl
@[simp] theorem dor_e:dor fa fb δ=(fa δ).bind fun r=>match r with
 | .sh (.bl true)=>some (.sh (.bl true))
 | .sh (.bl false)=>fb δ
 | _=>none:=rfl
@[simp] theorem dnot_e:dnot fa δ=(fa δ).bind fun r=>match r with
 | .sh (.bl b)=>some (.sh (.bl (!b)))
 | _=>none:=rfl
@[simp] theorem dif_e:dif t fa fb δ=(t δ).bind fun k=>if k=true then fa δ else fb δ:=rfl
@[simp] theorem fK:af δ=some []:=rfl
@[simp] theorem aE:ab fa fr δ=(fa δ).bind fun r=>(fr δ).bind fun rs=>some (r::rs):=rfl
@[simp] theorem dlst_e:bX fr δ=(fr δ).bind fun rs=>if dd rs=true/\rs.length<=big then some (.fr (rs.map R.view)) else none:=rfl
@[simp] theorem dtup_e:b9 fr δ=(fr δ).bind fun rs=>if dd rs=true/\rs.length<=big then some (.sh (.tup (rs.map R.view))) else none:=rfl
@[simp] theorem o5 (n:Nat) (m:List D->Option D):av n m fr δ=(fr δ).bind (jw n m):=rfl
@[simp] theorem dcallF_e (n:Nat) (m:List D->Option (List D)):dcallF n m fr δ=(fr δ).bind (g9 n m):=rfl
@[simp] theorem lG (n:Nat) (m:List D->Option D) (rs:List R):jw n m rs=(m (rs.map R.view)).bind fun d=>if rs.length=n/\(dd rs=true\/d.flat=true) then some (.sh d) else none:=rfl
@[simp] theorem mcallF_e (n:Nat) (m:List D->Option (List D)) (rs:List R):g9 n m rs=(m (rs.map R.view)).bind fun d=>if rs.length=n/\dd rs=true then some (.fr d) else none:=rfl
@[simp] theorem o6 (ok:Addr->Bool) (x:Str):bZ ok x fa δ=(fa δ).bind fun r=>match r.view with
 | .obj C fs=>if ok C=true then (fs.lookup x).map .sh else none
 | _=>none:=rfl
@[simp] theorem dmeth_e (C:Addr) (name:Str) (n:Nat) (m:List D->Option D):bH C name n m fa fr δ=(fa δ).bind fun r=>match r.view with
 | .obj C' fs=>if C'=C/\fs.lookup name=none then (fr δ).bind fun rs=>jw n m (r::rs) else none
 | _=>none:=rfl
@[simp] theorem b7 (o:D->Option R):al o fr δ=(fr δ).bind fun rs=>match rs with
 | [r]=>o r.view
 | _=>none:=rfl
@[simp] theorem mj (o:D->D->Option R):aZ o fr δ=(fr δ).bind fun rs=>match rs with
 | [r,s]=>o r.view s.view
 | _=>none:=rfl
@[simp] theorem bj (d:D):(R.sh d).view=d:=rfl
@[simp] theorem view_fr (ds:List D):(R.fr ds).view=.lst ds:=rfl
@[simp] theorem view_bw (ds:List D):(R.bw ds).view=.lst ds:=rfl
@[simp] theorem gw (d:D):(R.sh d).isBw=false:=rfl
@[simp] theorem isBw_fr (ds:List D):(R.fr ds).isBw=false:=rfl
@[simp] theorem isBw_bw (ds:List D):(R.bw ds).isBw=true:=rfl
@[simp] theorem bool_bl (b:Bool):(R.sh (.bl b)).bool=some b:=rfl
@[simp] theorem ent_sh (d:D):(R.sh d).ent=some (.sh d):=rfl
@[simp] theorem ent_fr (ds:List D):(R.fr ds).ent=some (.ow ds):=rfl
@[simp] theorem qp:dd []=true:=rfl
@[simp] theorem n9 (r:R) (rs:List R):dd (r::rs)=(!r.isBw&&dd rs):=rfl
@[simp] theorem flat_bl (b:Bool):(D.bl b).flat=true:=rfl
@[simp] theorem flat_int (b:Int):(D.int b).flat=true:=rfl
@[simp] theorem flat_non:D.non.flat=true:=rfl
@[simp] theorem o7:aG f δ=(f δ).bind fun r=>if r.isBw=true then none else some (.rt r):=rfl
@[simp] theorem sretv_e (i:Nat):jy i δ=match δ[i]? with
 | some (some (.ow ds))=>some (.rt (.fr ds))
 | some (some (.sh d))=>some (.rt (.sh d))
 | some (some (.nw d))=>some (.rn d)
 | _=>none:=rfl
@[simp] theorem cp:sif t F G δ=(t δ).bind fun b=>if b=true then F δ else G δ:=rfl
@[simp] theorem dX:ar F G δ=(F δ).bind (Res.thn G):=rfl
@[simp] theorem thn_nx (δ:DSt):Res.thn G (.nx δ)=G δ:=rfl
@[simp] theorem thn_rt (r:R):Res.thn G (.rt r)=some (.rt r):=rfl
@[simp] theorem thn_rn (d:D):Res.thn G (.rn d)=some (.rn d):=rfl
@[simp] theorem sskip_e:az δ=some (.nx δ):=rfl
@[simp] theorem sset_e (i:Nat):sset i f δ=(f δ).bind fun r=>r.ent.bind fun en=>some (.nx (δ.set i (some en))):=rfl
@[simp] theorem dq (i:Nat):i8 i F δ=F (frz i δ):=rfl
@[simp] theorem run_e (k:Nat) (F:FS) (ds:List D):Ew.run k F ds=match F (ds.map (fun d=>some (.sh d))++List.replicate (k-ds.length) none) with
 | some (.rt r)=>if r.isBw=true then none else some r.view
 | some (.nx _)=>some .non
 | some (.rn d)=>some d
 | _=>none:=rfl
@[simp] theorem isC_self (a:Addr):isC a a=true:=by unfold isC;simp
@[simp] theorem oAdd_ii (i j:Int):bh (.int i) (.int j)=some (.sh (.int (i+j))):=rfl
@[simp] theorem oSub_ii (i j:Int):oSub (.int i) (.int j)=some (.sh (.int (i-j))):=rfl
@[simp] theorem oLt_ii (i j:Int):oLt (.int i) (.int j)=some (.sh (.bl (decide (i<j)))):=rfl
@[simp] theorem oLe_ii (i j:Int):oLe (.int i) (.int j)=some (.sh (.bl (decide (i<=j)))):=rfl
@[simp] theorem oGt_ii (i j:Int):oGt (.int i) (.int j)=some (.sh (.bl (decide (j<i)))):=rfl
@[simp] theorem oGe_ii (i j:Int):oGe (.int i) (.int j)=some (.sh (.bl (decide (j<=i)))):=rfl
@[simp] theorem oLen_l (xs:List D):aV (.lst xs)=some (.sh (.int xs.length)):=rfl
@[simp] theorem oList_l (xs:List D):dI (.lst xs)=some (.fr xs):=rfl
@[simp] theorem oList_t (xs:List D):dI (.tup xs)=some (.fr xs):=rfl
@[simp] theorem oMin2_ii (i j:Int):dJ (.int i) (.int j)=some (.sh (.int (if j<i then j else i))):=rfl
@[simp] theorem oMax2_ii (i j:Int):fg (.int i) (.int j)=some (.sh (.int (if j>i then j else i))):=rfl
@[simp] theorem kI (xs:List D) (i:Int):oIx (.lst xs) (.int i)=(atI xs i).map .sh:=rfl
@[simp] theorem oIx_t (xs:List D) (i:Int):oIx (.tup xs) (.int i)=(atI xs i).map .sh:=rfl
@[simp] theorem dcomp_e (fi:DSt->Option (List D)) (g:GD) (c:DSt->Option Bool) (fe:FE) (m:Nat) (ix:List Nat):bI fi g c fe m ix δ=(fi δ).bind fun items=>if items.length<=big then (cO g c fe (dIn m ix δ) items).map .fr else none:=rfl
@[simp] theorem cq:aH f δ=(f δ).bind fun r=>if r.isBw=true then none else match r.view with
 | .lst ds=>some ds
 | _=>none:=rfl
@[simp] theorem cyes_e:dR δ=some true:=rfl
theorem dr (g:GD) (c:DSt->Option Bool) (fe:FE) (δ:DSt) {α:Type} (enc:α->D) (p:α->Bool) (out:α->D) (xs:List α)
  (h:∀ x∈xs,∃ δ1,g (enc x) δ=some δ1/\c δ1=some (p x)/\(p x=true->∃ r,fe δ1=some r/\r.isBw=false/\r.view=out x)) :
  cO g c fe δ (xs.map enc)=some ((xs.filter p).map out):=by
 induction xs with
 | nil=>rfl
 | cons x xs ih=>
  obtain ⟨δ1,h1,h2,h3⟩:=h x List.mem_cons_self;have ih:=ih fun y hy=>h y (uf _ hy);rw [List.map_cons];unfold cO;rw [h1];show ((c δ1).bind fun b=>if b=true then (fe δ1).bind fun r1=>if r1.isBw=true then none else (cO g c fe δ (xs.map enc)).bind fun t=>some (r1.view::t) else cO g c fe δ (xs.map enc))=_;rw [h2];show (if p x=true then (fe δ1).bind fun r1=>if r1.isBw=true then none else (cO g c fe δ (xs.map enc)).bind fun t=>some (r1.view::t) else cO g c fe δ (xs.map enc))=_;by_cases hp:p x=true
  ·obtain ⟨r,e1,e2,e3⟩:=h3 hp;rw [if_pos hp,e1,ih];simp [e2,e3,hp,List.filter_cons]
  ·rw [if_neg hp,ih];simp [hp,List.filter_cons]
theorem eU (i:Int):okD (.int i)=true:=by unfold okD;simp [D.plain,D.py,PyData.canLay0,PyData.depth]
theorem lH (i j:Int):eqP (.int i) (.int j)=decide (i=j):=by unfold eqP;simp [D.py,PyData.eqv];rfl
@[simp] theorem oEq_ii (i j:Int):oEq (.int i) (.int j)=some (.sh (.bl (decide (i=j)))):=by unfold oEq;rw [if_pos ⟨eU i,eU j⟩,lH]
@[simp] theorem oNe_ii (i j:Int):oNe (.int i) (.int j)=some (.sh (.bl (!decide (i=j)))):=by unfold oNe;rw [if_pos ⟨eU i,eU j⟩,lH]
theorem qq (ns:List Int):pys (ns.map .int)=ns.map PyData.int:=by rw [gu,List.map_map];rfl
theorem jc:∀ ds:List D,hE ds=ds.all D.plain
 | []=>by unfold hE;rfl
 | d::ds=>by unfold hE;rw [jc ds];rfl
theorem fM:∀ ds:List PyData,PyData.canLayAll0 ds=ds.all PyData.canLay0
 | []=>by unfold PyData.canLayAll0;rfl
 | d::ds=>by unfold PyData.canLayAll0;rw [fM ds];rfl
theorem hX {k:Nat}:∀ {ds:List PyData},(∀ d∈ds,d.depth<=k)->PyData.depthAll ds<=k
 | [],_=>by unfold PyData.depthAll;exact Nat.zero_le _
 | d::ds,h=>by
  unfold PyData.depthAll;exact Nat.max_le.mpr ⟨h d List.mem_cons_self,hX fun e he=>h e (uf _ he)⟩
theorem ml {ds:List D} (h:∀ d∈ds,d.plain=true/\d.py.canLay0=true/\d.py.depth<=15):okD (.lst ds)=true:=by
 unfold okD;rw [um,um];refine ⟨?_,?_,?_⟩
 ·unfold D.plain;rw [jc];exact List.all_eq_true.mpr fun d hd=>(h d hd).1
 ·unfold D.py PyData.canLay0;rw [fM,gu];exact List.all_eq_true.mpr fun d hd=>by
   obtain ⟨e,he,rfl⟩:=List.mem_map.mp hd;exact (h e he).2.1
 ·unfold D.py PyData.depth;refine decide_eq_true ?_;have:=hX (k:=15) (ds:=pys ds) fun d hd=>by
   rw [gu] at hd;obtain ⟨e,he,rfl⟩:=List.mem_map.mp hd;exact (h e he).2.2
  omega
theorem hZ (ns:List Int):okD (.lst (ns.map .int))=true:=ml fun d hd=>by
 obtain ⟨i,_,rfl⟩:=List.mem_map.mp hd;obtain ⟨a,b,c⟩:=bP (eU i);exact ⟨a,b,by unfold D.py PyData.depth;omega⟩
theorem kJ:∀ (ns ms:List Int),PyData.eqvAll (ns.map PyData.int) (ms.map PyData.int)=decide (ns=ms)
 | [],[]=>by simp [PyData.eqvAll]
 | [],_::_=>by simp [PyData.eqvAll]
 | _::_,[]=>by simp [PyData.eqvAll]
 | n::ns,m::ms=>by
  simp only [List.map_cons,PyData.eqvAll,PyData.eqv,kJ ns ms];by_cases h:n=m
  ·subst h;simp
  ·simp [h]
@[simp] theorem jD (ns ms:List Int):oEq (.lst (ns.map .int)) (.lst (ms.map .int))=some (.sh (.bl (decide (ns=ms)))):=by
 unfold oEq;rw [if_pos ⟨hZ ns,hZ ms⟩];unfold eqP D.py PyData.eqv;rw [qq,qq,kJ]
theorem any_int (i:Int) (ns:List Int):((ns.map D.int).any fun y=>eqP y (.int i))=ns.contains i:=by
 rw [List.any_map,List.contains_eq_any_beq];congr 1;funext y;show eqP (.int y) (.int i)=(i==y);rw [lH,Bool.beq_eq_decide_eq];exact decide_eq_decide.mpr ⟨Eq.symm,Eq.symm⟩
@[simp] theorem oIn_ints (i:Int) (ns:List Int):oIn (.int i) (.lst (ns.map .int))=some (.sh (.bl (ns.contains i))):=by
 show (if okD (D.int i)=true/\okD (D.lst (List.map D.int ns))=true then some (R.sh (D.bl ((ns.map D.int).any fun y=>eqP y (D.int i)))) else none)=_;rw [if_pos ⟨eU i,hZ ns⟩,any_int]
@[simp] theorem oNotIn_ints (i:Int) (ns:List Int):oNotIn (.int i) (.lst (ns.map .int))=some (.sh (.bl (!ns.contains i))):=by
 show (if okD (D.int i)=true/\okD (D.lst (List.map D.int ns))=true then some (R.sh (D.bl (!(ns.map D.int).any fun y=>eqP y (D.int i)))) else none)=_;rw [if_pos ⟨eU i,hZ ns⟩,any_int]
end
noncomputable def tN (f:DSt->Option D):TE:=fun σ H Q=>∃ Hs δ d,aO Hs H/\fB Hs H δ σ/\f δ=some d/\∀ v Hs' H' L,Wd H Hs Hs' H'->Own H' d v L->(∀ a∈L,H a=none/\Hs' a=none)->Q v H'
structure DN (X:Cx) (e:Expr) (f:DSt->Option D):Prop where
 go:PE X e (tN f)
noncomputable def tNA (f:DSt->Option (List D)):TA:=fun σ H Q=>∃ Hs δ ds,aO Hs H/\fB Hs H δ σ/\f δ=some ds/\∀ vs Hs' H' L,Wd H Hs Hs' H'->aF H' ds vs L->(∀ a∈L,H a=none/\Hs' a=none)->Q vs H'
structure DNA (X:Cx) (es:List Expr) (f:DSt->Option (List D)):Prop where
 go:PA X es (tNA f)
abbrev FN:=DSt->Option D
theorem Own.flat {H Hs:Hp} {d:D} {v:V} (hf:d.flat=true) (h:Rep Hs d v):Own H d v []:=by
 cases d with
 | lst _=>cases hf
 | tup _=>cases hf
 | obj _ _=>cases hf
 | _=>unfold Rep at h;unfold Own;exact ⟨h,rfl⟩
theorem aF.flat {H Hs:Hp}:∀ {ds:List D} {vs:List V},(ds.all D.flat)=true->aC Hs ds vs->aF H ds vs []
 | [],_,_,h=>by unfold aC at h;unfold aF;exact ⟨h,rfl⟩
 | d::ds,_,hf,h=>by
  unfold aC at h;obtain ⟨v,r,e,h1,h2⟩:=h;rw [List.all_cons,um] at hf;unfold aF;exact ⟨v,r,[],[],e,Own.flat hf.1 h1,aF.flat hf.2 h2,fun _ z=>(by cases z),rfl⟩
theorem aF.length {H:Hp}:∀ {ds:List D} {vs:List V} {L:List Addr},aF H ds vs L->vs.length=ds.length
 | [],_,_,h=>by unfold aF at h;rw [h.1];rfl
 | d::ds,_,_,h=>by
  unfold aF at h;obtain ⟨v,r,M,N,e,h1,h2,_⟩:=h;rw [e];simp [aF.length h2]
noncomputable def R.toN:R->Option D
 | .sh d=>if d.flat=true then some d else none
 | .fr ds=>if ds.all D.flat=true then some (.lst ds) else none
 | .bw _=>none
noncomputable def dL (f:FE):FN:=fun δ=>(f δ).bind R.toN
section
variable {X:Cx} {e a b c:Expr} {es:List Expr} {f:FE} {g h:FN} {gs:DSt->Option (List D)} {fr:DSt->Option (List R)} {pos:Pos} {n:Nat} {m:List D->Option D} {E:XK}
theorem di.toN {H0 Hs H:Hp} {r:R} {v:V} {d:D} (h:di H0 Hs H r v) (e:r.toN=some d):∃ L,Own H d v L/\∀ a∈L,H0 a=none/\Hs a=none:=by
 cases r with
 | sh d'=>
  replace e:(if d'.flat=true then some d' else none)=some d:=e;by_cases hf:d'.flat=true
  ·rw [if_pos hf] at e;cases e;exact ⟨[],Own.flat hf h,fun _ z=>by cases z⟩
  ·rw [if_neg hf] at e;cases e
 | fr ds=>
  replace e:(if ds.all D.flat=true then some (D.lst ds) else none)=some d:=e;by_cases hf:ds.all D.flat=true
  ·rw [if_pos hf] at e;cases e;obtain ⟨a,vs,e1,n1,m1,h1,h2⟩:=h;refine ⟨[a],?_,fun b hb=>?_⟩
   ·unfold Own;exact ⟨a,vs,[],e1,h1,aF.flat hf h2,fun z=>(by cases z),rfl⟩
   ·rcases List.mem_cons.mp hb with rfl | hb
    ·exact ⟨n1,m1⟩
    ·cases hb
  ·rw [if_neg hf] at e;cases e
 | bw ds=>cases e
theorem dw (h:DE X e f):DN X e (dL f):=.mk <| h.go.weak fun σ H Q ⟨Hs,δ,d,S,En,e,K⟩=>by
 unfold dL at e;cases ef:f δ with
 | none=>rw [ef] at e;cases e
 | some r=>
  rw [ef] at e;refine ⟨Hs,δ,r,S,En,ef,fun v uq H1 W1 R1=>?_⟩;obtain ⟨L,o,n⟩:=R1.toN e;exact K v uq H1 L W1 o n
noncomputable def dnw (g:FN):FE:=fun δ=>(g δ).map .sh
theorem de_dn (h:DN X e g):DE X e (dnw g):=.mk <| h.go.weak fun σ H Q ⟨Hs,δ,r,S,En,e,K⟩=>by
 unfold dnw at e;cases ef:g δ with
 | none=>rw [ef] at e;cases e
 | some d=>
  rw [ef] at e;cases e;refine ⟨Hs,δ,d,S,En,ef,fun v uq H1 L W1 o n=>?_⟩;obtain ⟨uv,q,s1,s2,s3⟩:=o.share W1.sub fun a ha=>(n a ha).2;exact K v uv H1 ⟨W1.keep,s1,W1.base.trans s2,fun a o e=>(s3 a o e).elim (W1.new a o) fun z=>.inr (n a z).1⟩ q
noncomputable def mn:DSt->Option (List D):=fun _=>some []
noncomputable def dY (g:FN) (gs:DSt->Option (List D)):DSt->Option (List D):=fun δ=>(g δ).bind fun d=>(gs δ).bind fun ds=>some (d::ds)
theorem o8:DNA X [] mn:=.mk <| cX.weak fun σ H Q ⟨Hs,δ,r,S,En,e,K⟩=>by
 cases e;exact K [] Hs H [] (.refl S) (by unfold aF;exact ⟨rfl,rfl⟩) fun _ z=>by cases z
theorem f7 (ha:DN X e g) (hr:DNA X es gs) (hs:starEach (e::es) X.env=(false,eval e X.env)::starEach es X.env:=by exact bY rfl):DNA X (e::es) (dY g gs):=
 .mk <| (bM ha.go hr.go hs).weak fun σ H Q ⟨Hs,δ,r,S,En,e,K⟩=>by
  unfold dY at e;cases ea:g δ with
  | none=>rw [ea] at e;cases e
  | some d=>
   cases eb:gs δ with
   | none=>rw [ea,eb] at e;cases e
   | some ds=>
    rw [ea,eb] at e;cases e;refine ⟨Hs,δ,d,S,En,ea,fun x uq H1 L1 W1 O1 n1=>⟨uq,δ,ds,W1.sub,En.mono W1,eb,fun vs uv H2 L2 W2 O2 n2=>?_⟩⟩;refine K (x::vs) uv H2 (L1++L2) (W1.trans W2) ?_ fun a ha=>?_
    ·unfold aF;refine ⟨x,vs,L1,L2,rfl,O1.mono W2.keep,O2,fun a h1 h2=>?_,rfl⟩;obtain ⟨o,ho⟩:=Own.cell _ O1 a h1;rw [(n2 a h2).1] at ho;cases ho
    ·rcases List.mem_append.mp ha with h1 | h2
     ·obtain ⟨o,ho⟩:=Own.cell _ O1 a h1;exact ⟨(n1 a h1).1,W2.stay ho (n1 a h1).2⟩
     ·exact ⟨W1.keep.free (n2 a h2).1,(n2 a h2).2⟩
noncomputable def ntup (gs:DSt->Option (List D)):FN:=fun δ=>(gs δ).bind fun ds=>if ds.length<=big then some (.tup ds) else none
noncomputable def nlst (gs:DSt->Option (List D)):FN:=fun δ=>(gs δ).bind fun ds=>if ds.length<=big then some (.lst ds) else none
theorem dn_tup {x1} (h:DNA X es gs):DN X (.Tuple es x1 pos) (ntup gs):=.mk <| (pe_tup h.go).weak fun σ H Q ⟨Hs,δ,r,S,En,e,K⟩=>by
 unfold ntup at e;cases ea:gs δ with
 | none=>rw [ea] at e;cases e
 | some ds=>
  rw [ea] at e;replace e:(if ds.length<=big then some (D.tup ds) else none)=some r:=e;by_cases hc:ds.length<=big
  ·rw [if_pos hc] at e;cases e;refine ⟨Hs,δ,ds,S,En,ea,fun vs uq H1 L W1 O n=>⟨?_,fun p hp=>?_⟩⟩
   ·rw [O.length];exact Nat.le_of_lt (bS hc)
   ·have np:p∉L:=fun z=>by
     obtain ⟨o,ho⟩:=aF.cell _ O p z;rw [hp] at ho;cases ho
    refine K _ uq _ (p::L) (W1.trans (.fresh W1.sub hp)) ?_ fun a ha=>?_
    ·unfold Own;exact ⟨p,vs,L,rfl,aB,O.mono (.new hp),np,rfl⟩
    ·rcases List.mem_cons.mp ha with rfl | ha
     ·exact ⟨W1.keep.free hp,W1.sub.free hp⟩
     ·exact n a ha
  ·rw [if_neg hc] at e;cases e
noncomputable def nif (t:DSt->Option Bool) (g h:FN):FN:=fun δ=>(t δ).bind fun k=>if k=true then g δ else h δ
theorem qr {tf:DSt->Option Bool} (hc:DT X c tf) (ha:DN X a g) (hb:DN X b h):DN X (.IfExp c a b pos) (nif tf g h):=.mk <| (lR hc.go ha.go hb.go).weak fun σ H Q ⟨Hs,δ,r,S,En,e,K⟩=>by
 unfold nif at e;cases ea:tf δ with
 | none=>rw [ea] at e;cases e
 | some k=>
  rw [ea] at e;refine ⟨Hs,δ,k,S,En,ea,fun uq H1 W1=>?_⟩;have key:∀ {g':FN},g' δ=some r->tN g' σ H1 Q:=fun e=>⟨uq,δ,r,W1.sub,En.mono W1,e,fun v uv H2 L W2 O n=>K v uv H2 L (W1.trans W2) O fun a ha=>⟨W1.keep.free (n a ha).1,(n a ha).2⟩⟩;cases k with
  | true=>show (if true=true then tN g σ H1 Q else tN h σ H1 Q);rw [if_pos rfl];exact key e
  | false=>show (if false=true then tN g σ H1 Q else tN h σ H1 Q);rw [if_neg Bool.false_ne_true];exact key e
end
noncomputable def spN (n:Nat) (m:List D->Option D):Sp:=fun vs H Q _=>∃ Hs ds d,ds.length=n/\aO Hs H/\aC Hs ds vs/\m ds=some d/\∀ v Hs' H' L,Wd H Hs Hs' H'->Own H' d v L->(∀ a∈L,H a=none/\Hs' a=none)->Q v H'
theorem spN_len {n:Nat} {m:List D->Option D} {vs:List V} {H:Hp} {Q:VK} {E:XK} (h:spN n m vs H Q E):vs.length=n:=by
 obtain ⟨Hs,ds,d,e,_,r,_⟩:=h;rw [r.length,e]
noncomputable def cP (n:Nat) (m:List D->Option D) (fa:DSt->Option (List R)):FN:=fun δ=>(fa δ).bind fun rs=>if rs.length=n/\dd rs=true then m (rs.map R.view) else none
theorem tN_call {n:Nat} {m:List D->Option D} {fr:DSt->Option (List R)} {E:XK} {σ:St} {H:Hp} {Q:VK} (h:tN (cP n m fr) σ H Q):tCall (spN n m) [] E (tDA fr) σ H Q:=by
 obtain ⟨Hs,δ,r,S,En,e,K⟩:=h;unfold cP at e;cases ea:fr δ with
 | none=>rw [ea] at e;cases e
 | some rs=>
  rw [ea] at e;refine ⟨Hs,δ,rs,S,En,ea,fun vs uq H1 W1 R1=>?_⟩;replace e:(if rs.length=n/\dd rs=true then m (rs.map R.view) else none)=some r:=e;by_cases hc:rs.length=n/\dd rs=true
  ·rw [if_pos hc] at e;show spN n m (vs++[]) H1 Q E;rw [List.append_nil];obtain ⟨uv,q1,q2,q3,q4⟩:=R1.freeze W1.sub;have W2:Wd H Hs uv H1:=⟨W1.keep,q2,W1.base.trans q3,fun a o e=>by
    rcases q4 (iD hc.2) a o e with z | z
    ·exact W1.new a o z
    ·exact .inr z⟩
   exact ⟨uv,_,r,by rw [uk];exact hc.1,q2,q1,e,fun v Hs3 H3 L W3 O n=>K v Hs3 H3 L (W2.trans W3) O fun a ha=>⟨W1.keep.free (n a ha).1,(n a ha).2⟩⟩
  ·rw [if_neg hc] at e;cases e
noncomputable def runN (k:Nat) (F:FS) (ds:List D):Option D:=match F (ds.map (fun d=>some (.sh d))++List.replicate (k-ds.length) none) with
 | some (.rt r)=>r.toN
 | some (.nx _)=>some .non
 | some (.rn d)=>some d
 | _=>none
section
variable {P:Program} {w:World} {K:Frag} {mg:Str->Option Value} {base:Heap}
theorem fn_N {x qual:Str} {st:Stmt} {f:Addr} {fd:FuncData} {N ps:List Str} {k:Nat} {F:FS} (F0:Fun K x qual st f fd) (S:d6 N ps (au st))
  (h:∀ (ux:Value) (A:Around) (outer:List Env) (s:Shared) (H:Hp) (E:XK),bG k (A.deeper (envOfC qual (au st) s.heap.objs.size f ux))->DSs (j8 CX0 P w K mg base N qual (au st) f ux A outer s H E).nox (aU st) F) :
  eM P w K mg base CX0 (k+1) f fd ps (spN ps.length (runN N.length F)):=by
 refine F0.ok S (fun vs H Q E hs=>spN_len hs) (fun ux A outer s H vs Q E hr hs=>?_);obtain ⟨Hs,ds,d,hl,sub,r,em,post⟩:=hs;refine ⟨_,(h ux A outer s H E hr).go H Hs,?_⟩;unfold runN at em;cases eF:F (ds.map (fun d=>some (.sh d))++List.replicate (N.length-ds.length) none) with
 | none=>rw [eF] at em;cases em
 | some res=>
  rw [eF] at em;refine ⟨Hs,_,res,.refl sub,ma r,eF,?_⟩;cases res with
  | nx δ=>
   cases em;exact fun σ uq H1 W1 _=>post .non uq H1 [] W1 (by unfold Own;exact ⟨rfl,rfl⟩) fun _ z=>by cases z
  | rt r1=>
   intro v uq H1 W1 R1;obtain ⟨L,o,n⟩:=R1.toN em;exact post v uq H1 L W1 o n
  | bk δ=>cases em
  | ct δ=>cases em
  | rn d'=>
   cases em;exact fun v uq H1 L W1 O n=>post v uq H1 L W1 O n
end
noncomputable def jE (i:Nat) (g:FN):FS:=fun δ=>(g δ).bind fun d=>some (.nx (δ.set i (some (.nw d))))
noncomputable def gN (g:FN):FS:=fun δ=>(g δ).bind fun d=>some (.rn d)
section
variable {X:Cx} {e:Expr} {g:FN} {pos:Pos}
theorem ts_setN {H0 uw:Hp} {i:Nat} {D:Ends} {σ:St} {H:Hp} (h:tS H0 uw (jE i g) D σ H):tAsg (tN g) (nT i) D σ H:=by
 obtain ⟨Hs,δ,res,W,S,e,P⟩:=h;unfold jE at e;cases et:g δ with
 | none=>rw [et] at e;cases e
 | some d=>
  rw [et] at e;cases e;refine ⟨Hs,δ,d,W.sub,S.ent,et,fun v uq H1 L W1 O n=>P _ uq H1 (W.trans W1) (S.put W.keep W1 ⟨L,O,fun a ha=>(n a ha).2⟩ fun b ⟨L',O',hb⟩=>?_)⟩;rw [Own.uniq d O' O] at hb;exact (n b hb).1
theorem ds_setN {i:Nat} {x:Str} {pos':Pos} (hN:X.N.Nodup) (hi:X.N[i]?=some x) (hx:Loc X.env.scope x) (he:DN X e g) (hs:swapsWith e (some (.Name x pos')) pos.line X.env=pure false:=by rfl)
 (hf:X.fn x=true\/X.env.scope.names.lookup x=some .local:=by first | exact .inl rfl | exact .inr rfl | assumption):DS X (.Assign [.Name x pos'] e pos) (jE i g):=.mk fun H0 uw=>(lS hN hi hx he.go hs hf).weak fun _ _ _=>ts_setN
theorem ft (h:DN X e g):DS X (.Return (some e) pos) (gN g):=.mk fun H0 uw=>(oN h.go).weak fun D σ H ⟨Hs,δ,res,W,S,e,P⟩=>by
 unfold gN at e;cases et:g δ with
 | none=>rw [et] at e;cases e
 | some d=>
  rw [et] at e;cases e;exact ⟨Hs,δ,d,W.sub,S.ent,et,fun v uq H1 L W1 O n=>P v uq H1 L (W.trans W1) O fun a ha=>⟨W.keep.free (n a ha).1,(n a ha).2⟩⟩
end
theorem aF.snoc {H:Hp}:∀ {ds:List D} {vs:List V} {L M:List Addr} {d:D} {v:V},aF H ds vs L->Own H d v M->(∀ a∈L,a∉M)->aF H (ds++[d]) (vs++[v]) (L++M)
 | [],_,_,M,d,v,h,h',n=>by
  unfold aF at h;obtain ⟨rfl,rfl⟩:=h;show aF H [d] [v] M;unfold aF;exact ⟨v,[],M,[],rfl,h',by unfold aF;exact ⟨rfl,rfl⟩,fun _ _ z=>(by cases z),by simp⟩
 | c::ds,_,_,M,d,v,h,h',n=>by
  unfold aF at h;obtain ⟨u,r,A,B,rfl,h1,h2,k,rfl⟩:=h;have:=aF.snoc h2 h' fun a ha=>n a (List.mem_append_right _ ha);show aF H (c::(ds++[d])) (u::(r++[v])) _;unfold aF;refine ⟨u,r++[v],A,B++M,rfl,h1,this,fun a ha hb=>?_,by simp⟩;rcases List.mem_append.mp hb with hb | hb
  ·exact k a ha hb
  ·exact n a (List.mem_append_left _ ha) hb
noncomputable def c8 (g:GD) (c:DSt->Option Bool) (fe:FN) (δ:DSt):List D->Option (List D)
 | []=>some []
 | d::r=>(g d δ).bind fun δ1=>(c δ1).bind fun b=>if b=true then (fe δ1).bind fun r1=>(c8 g c fe δ r).bind fun t=>some (r1::t) else c8 g c fe δ r
noncomputable def mo (fi:DSt->Option (List D)) (g:GD) (c:DSt->Option Bool) (fe:FN) (m:Nat) (ix:List Nat):FN:=fun δ=>(fi δ).bind fun items=>if items.length<=big then (c8 g c fe (dIn m ix δ) items).map .lst else none
theorem tN_comp {fi:DSt->Option (List D)} {ks:List Nat} {g:GD} {c:DSt->Option Bool} {fe:FN} {m:Nat} {ix:List Nat} (hk:∀ j∈ks,j<m) {σ:St} {H:Hp} {Q:VK} (h:tN (mo fi g c fe m ix) σ H Q) :
  tComp (tI fi) (tG ks g) (tDT c) (tN fe) m ix σ H Q:=by
 obtain ⟨Hs,δ,r,S,En,e,K⟩:=h;unfold mo at e;cases ei:fi δ with
 | none=>rw [ei] at e;cases e
 | some items=>
  rw [ei] at e;replace e:(if items.length<=big then (c8 g c fe (dIn m ix δ) items).map D.lst else none)=some r:=e;by_cases hbig:items.length<=big
  ·rw [if_pos hbig] at e;cases em:c8 g c fe (dIn m ix δ) items with
   | none=>rw [em] at e;cases e
   | some out=>
    rw [em] at e;cases e;refine ⟨Hs,δ,items,S,En,ei,fun J uq H1 W1 Y A hA=>?_⟩;have En1:fB uq H1 (dIn m ix δ) (gt m ix σ):=entIn m ix (En.mono W1);have len1:(gt m ix σ).length=(dIn m ix δ).length:=by unfold gt dIn;simp
    have hA1:uq A=none:=W1.sub.free hA;refine ⟨fun i n σ' H'=>n=items.length-i/\i<=items.length/\σ'.length=(dIn m ix δ).length/\(∀ j,m<=j->σ'[j]?=(gt m ix σ)[j]?)/\
     ∃ Hs' ds vs rest L,Wd H1 uq Hs' H'/\Hs' A=none/\H' A=some (.lst vs)/\aF H' ds vs L/\(∀ a∈L,H1 a=none/\Hs' a=none/\a≠A)/\ds.length<=i/\c8 g c fe (dIn m ix δ) (items.drop i)=some rest/\out=ds++rest,?_,?_⟩
    ·refine ⟨items.length,by simp,Nat.zero_le _,len1,fun _ _=>rfl,uq,[],[],out,[],⟨.new hA,W1.sub.trans (.new hA),.refl _,fun _ _ e=>.inl e⟩,hA1,aB,by unfold aF;exact ⟨rfl,rfl⟩,fun _ z=>(by cases z),Nat.zero_le _,by simpa using em,by simp⟩
    ·rintro i n σ1 H2 ⟨rfl,hi,hl1,hσ1,uv,ds,vs,rest,L,W2,hA2,hv2,r2,nL,hd2,e2,eo⟩;by_cases vk:i<items.length
     ·have hd:items[i]?=some items[i]:=by simp [vk]
      obtain ⟨go,yl⟩:=(Y i uv H2 W2.base W2.sub).1 _ hd;refine .inr ⟨go,fun σ' H'=>i+1<=items.length/\σ'.length=(dIn m ix δ).length/\(∀ j,m<=j->σ'[j]?=(gt m ix σ)[j]?)/\
       ∃ Hs' ds vs rest L,Wd H1 uq Hs' H'/\Hs' A=none/\H' A=some (.lst vs)/\aF H' ds vs L/\(∀ a∈L,H1 a=none/\Hs' a=none/\a≠A)/\ds.length<=i+1/\c8 g c fe (dIn m ix δ) (items.drop (i+1))=some rest/\out=ds++rest,
       fun σ' H' ⟨a,b,c',d'⟩=>⟨_,by omega,rfl,a,b,c',d'⟩,fun x H3 y=>?_⟩
      obtain ⟨Hs3,W3,rx⟩:=yl x H3 y;have W13:=W2.trans W3;have A3:=W3.stay hv2 hA2;have v3:=W3.keep _ _ hv2;have En3:fB Hs3 H3 (dIn m ix δ) σ1:=fun j en q=>by
       obtain ⟨v,hv,hr⟩:=(En1.mono W13) j en q;exact ⟨v,by rw [hσ1 j (dIn_own q)];exact hv,hr⟩
      rw [List.drop_eq_getElem_cons vk] at e2;unfold c8 at e2;cases eg:g items[i] (dIn m ix δ) with
      | none=>rw [eg] at e2;cases e2
      | some δ2=>
       rw [eg] at e2;refine ⟨Hs3,_,items[i],δ2,W3.sub,hl1,rx,eg,fun σ4 sr=>?_⟩;have hl4:σ4.length=(dIn m ix δ).length:=by rw [sr.lenS];exact hl1
       have hσ4:∀ j,m<=j->σ4[j]?=(gt m ix σ)[j]?:=fun j hj=>by
        rw [(sr.out j fun z=>Nat.not_lt.mpr hj (hk j z)).2];exact hσ1 j hj
       have En4:fB Hs3 H3 δ2 σ4:=sr.ent En3;replace e2:((c δ2).bind fun b=>if b=true then (fe δ2).bind fun r1=>(c8 g c fe (dIn m ix δ) (items.drop (i+1))).bind fun t=>some (r1::t) else c8 g c fe (dIn m ix δ) (items.drop (i+1)))=some rest:=e2;cases ec:c δ2 with
       | none=>rw [ec] at e2;cases e2
       | some b=>
        rw [ec] at e2;refine ⟨Hs3,δ2,b,W3.sub,En4,ec,fun Hs5 H5 W5=>?_⟩;have W15:=W13.trans W5;have A5:=W5.stay v3 A3;have v5:=W5.keep _ _ v3;have k25:aO H2 H5:=W3.keep.trans W5.keep;have nL5:∀ a∈L,H1 a=none/\Hs5 a=none/\a≠A:=fun a ha=>by
         obtain ⟨o,ho⟩:=aF.cell _ r2 a ha;exact ⟨(nL a ha).1,W5.stay (W3.keep _ _ ho) (W3.stay ho (nL a ha).2.1),(nL a ha).2.2⟩
        cases b with
        | false=>
         simp only [Bool.false_eq_true,if_false];exact ⟨vk,hl4,hσ4,Hs5,ds,vs,rest,L,W15,A5,v5,r2.mono k25,nL5,by omega,e2,eo⟩
        | true=>
         simp only [if_true];replace e2:((fe δ2).bind fun r1=>(c8 g c fe (dIn m ix δ) (items.drop (i+1))).bind fun t=>some (r1::t))=some rest:=e2;cases ef:fe δ2 with
         | none=>rw [ef] at e2;cases e2
         | some r1=>
          rw [ef] at e2;replace e2:((c8 g c fe (dIn m ix δ) (items.drop (i+1))).bind fun t=>some (r1::t))=some rest:=e2;cases er:c8 g c fe (dIn m ix δ) (items.drop (i+1)) with
          | none=>rw [er] at e2;cases e2
          | some t=>
           rw [er] at e2;cases e2;refine ⟨Hs5,δ2,r1,W5.sub,En4.mono W5,ef,fun v Hs7 H6 M W7 O6 n6=>?_⟩;have A7:=W7.stay v5 A5;have v7:=W7.keep _ _ v5;have W17:=W15.trans W7;have nA:H1 A=none:=hA;have r5:=r2.mono k25;have dj:∀ a∈L,a∉M:=fun a ha hm=>by
            obtain ⟨o,ho⟩:=aF.cell _ r5 a ha;rw [(n6 a hm).1] at ho;cases ho
           have nM:∀ a∈M,a≠A:=fun a ha z=>by
            have:=(n6 a ha).1;rw [z,v5] at this;cases this
           have nLM:∀ a∈L++M,H1 a=none/\Hs7 a=none/\a≠A:=fun a ha=>by
            rcases List.mem_append.mp ha with h | h
            ·obtain ⟨o,ho⟩:=aF.cell _ r5 a h;exact ⟨(nL5 a h).1,W7.stay ho (nL5 a h).2.1,(nL5 a h).2.2⟩
            ·exact ⟨W15.keep.free (n6 a h).1,(n6 a h).2,nM a h⟩
           refine ⟨vs,v7,?_,vk,hl4,hσ4,Hs7,ds++[r1],vs++[v],t,L++M,⟨fun b o q=>?_,fun b o q=>?_,W17.base,W17.new⟩,A7,aB,?_,nLM,by simp;omega,rfl,by rw [eo];simp⟩
           ·rw [r2.length];exact Nat.lt_of_le_of_lt hd2 (Nat.lt_trans vk (bS hbig))
           ·rw [aD (aK q nA)];exact W17.keep _ _ q
           ·rw [aD (aK q A7)];exact W17.sub _ _ q
           ·exact ((r5.mono W7.keep).snoc O6 dj).agree _ fun a ha=>aD (nLM a ha).2.2
     ·have hi':i=items.length:=by omega
      subst hi';rw [List.drop_length] at e2;cases e2;refine .inl ⟨(Y _ uv H2 W2.base W2.sub).2 (Nat.le_refl _),K _ uv H2 (A::L) (W1.trans W2) ?_ fun a ha=>?_⟩
      ·rw [eo,List.append_nil];unfold Own;exact ⟨A,vs,L,rfl,hv2,r2,fun z=>(nL A z).2.2 rfl,rfl⟩
      ·rcases List.mem_cons.mp ha with rfl | ha
       ·exact ⟨W1.keep.free hA,hA2⟩
       ·exact ⟨W1.keep.free (nL a ha).1,(nL a ha).2.1⟩
  ·rw [if_neg hbig] at e;cases e
section
variable {X:Cx} {tg elt iter:Expr} {ifs:List Expr} {scope:Scope} {pos:Pos} {N:List Str} {m:Nat} {ix:List Nat} {ks:List Nat} {g:GD} {c:DSt->Option Bool} {fe:FN} {fi:DSt->Option (List D)}
theorem dn_comp (hc:X.calm=true) (S:dQ X N m ix scope) (hk:∀ j∈ks,j<m) (hi:DI X tg iter fi)
  (hin:∀ cl C s H fp,DG (bv X N scope cl C s H fp) tg ks g/\DIfs (bv X N scope cl C s H fp) ifs c/\DN (bv X N scope cl C s H fp) elt fe)
  (hs:∀ x,foldedSetIterable iter X.env x=pure x:=by intro _;rfl):DN X (.ListComp elt [⟨tg,iter,ifs,0⟩] scope pos) (mo fi g c fe m ix):=.mk <|
 (pe_comp hc S hi.go (fun cl C s H fp=>⟨(hin cl C s H fp).1.go,(hin cl C s H fp).2.1.go,(hin cl C s H fp).2.2.go⟩) hs).weak fun _ _ _=>tN_comp hk
end
theorem aY.snoc {H:Hp}:∀ {fs:List (Str×D)} {vs:List (Str×V)} {L M:List Addr} {f:Str} {d:D} {v:V},aY H fs vs L->Own H d v M->(∀ a∈L,a∉M)->aY H (fs++[(f,d)]) (vs++[(f,v)]) (L++M)
 | [],_,_,M,f,d,v,h,h',n=>by
  unfold aY at h;obtain ⟨rfl,rfl⟩:=h;show aY H [(f,d)] [(f,v)] M;unfold aY;exact ⟨v,[],M,[],rfl,h',by unfold aY;exact ⟨rfl,rfl⟩,fun _ _ z=>(by cases z),by simp⟩
 | c::fs,_,_,M,f,d,v,h,h',n=>by
  unfold aY at h;obtain ⟨u,r,A,B,rfl,h1,h2,k,rfl⟩:=h;have:=aY.snoc (f:=f) h2 h' fun a ha=>n a (List.mem_append_right _ ha);show aY H (c::(fs++[(f,d)])) ((c.1,u)::(r++[(f,v)])) _;unfold aY;refine ⟨u,r++[(f,v)],A,B++M,rfl,h1,this,fun a ha hb=>?_,by simp⟩;rcases List.mem_append.mp hb with hb | hb
  ·exact k a ha hb
  ·exact n a (List.mem_append_left _ ha) hb
theorem aY.length {H:Hp}:∀ {fs:List (Str×D)} {vs:List (Str×V)} {L:List Addr},aY H fs vs L->vs.length=fs.length
 | [],_,_,h=>by unfold aY at h;rw [h.1];rfl
 | d::ds,_,_,h=>by
  unfold aY at h;obtain ⟨v,r,M,N,e,h1,h2,_⟩:=h;rw [e];simp [aY.length h2]
theorem aY.put_none {H:Hp} {f:Str} {v:V}:∀ {fs:List (Str×D)} {vs:List (Str×V)} {L:List Addr},aY H fs vs L->fs.lookup f=none->gV f v vs=vs++[(f,v)]
  | [],_,_,h,_=>by unfold aY at h;rw [h.1];rfl
  | (g,d)::fs,_,_,h,e=>by
    unfold aY at h;obtain ⟨u,r,A,B,rfl,h1,h2,k,rfl⟩:=h;rw [List.lookup_cons] at e;cases hx:f==g with
    | true=>rw [hx] at e;cases e
    | false=>
      rw [hx] at e;unfold gV;have:¬g=f:=fun z=>by subst z;simp at hx
      rw [if_neg this,aY.put_none h2 e];rfl
noncomputable def kK (C:Addr) (f:Str) (g:FN):FS:=fun δ=>match δ with
 | some (.on a (.obj C' fs))::r=>if C'=C/\fs.length<1000/\fs.lookup f=none then (g δ).bind fun d=>some (.nx (some (.on a (.obj C (fs++[(f,d)])))::r)) else none
 | _=>none
section
variable {X:Cx} {e:Expr} {g:FN}
theorem iH {f x:Str} {xp pos pos':Pos} {C:Addr} (hx:PE X (.Name x xp) (iY 0)) (he:DN X e g) (hk:Cls X.K C/\NoAttr X.K C f)
  (hs:swapsWith e (some (.Attribute (.Name x xp) f pos')) pos.line X.env=pure false:=by rfl) :
  DS X (.Assign [.Attribute (.Name x xp) f pos'] e pos) (kK C f g):=.mk fun H0 uw=>
 (ps_fld hx he.go hs).weak fun D σ H ⟨Hs,δ,res,W,S,e,P⟩=>by
  match δ,e,S with
  | some (.on a (.obj C' fs))::r,e,S=>
   replace e:(if C'=C/\fs.length<1000/\fs.lookup f=none then (g (some (.on a (.obj C' fs))::r)).bind fun d=>some (Res.nx (some (.on a (.obj C (fs++[(f,d)])))::r)) else none)=some res:=e;by_cases hc:C'=C/\fs.length<1000/\fs.lookup f=none
   ·rw [if_pos hc] at e;obtain ⟨rfl,hl,hf⟩:=hc;cases eg:g (some (.on a (.obj C' fs))::r) with
    | none=>rw [eg] at e;cases e
    | some d=>
     rw [eg] at e;cases e;refine ⟨Hs,_,d,W.sub,S.ent,eg,fun y uq H1 L1 W1 O1 n1=>?_⟩;obtain ⟨v,hv,ev,L,O,nL⟩:=S.ent 0 _ rfl;have O':=O;unfold Own at O;obtain ⟨a',dx,fvs,M,e1,h1,h3,h2,nM,nM2,rfl⟩:=O;rw [ev] at e1;cases e1;subst ev;refine ⟨_,hv,a,C',dx,fvs,rfl,W1.keep _ _ h1,hk.1,hk.2,by rw [h2.length];exact hl,?_⟩;have na:∀ b∈L1,b∉a::dx::M:=fun b hb z=>by
      obtain ⟨o,ho⟩:=Own.cell _ O' b z;rw [(n1 b hb).1] at ho;cases ho
     have nd:dx≠a:=fun z=>by rw [z,h1] at h3;cases h3
     have aM:uq a=none:=W1.stay h1 (nL a List.mem_cons_self);have ON:Own (L2.upd H1 a (.ins C' dx (fvs++[(f,y)]))) (.obj C' (fs++[(f,d)])) (.ref a) (a::dx::(M++L1)):=by
      unfold Own;refine ⟨a,dx,fvs++[(f,y)],M++L1,rfl,aB,?_,?_,fun z=>?_,fun z=>?_,rfl⟩
      ·rw [aD nd];exact W1.keep _ _ h3
      ·refine (aY.snoc (h2.mono W1.keep) O1 fun b hb hb1=>na b hb1 (uf _ (uf _ hb))).agree _ fun b hb=>aD fun z=>?_;subst z;rcases List.mem_append.mp hb with hb | hb
       ·exact nM hb
       ·exact na _ hb List.mem_cons_self
      ·rcases List.mem_append.mp z with z | z
       ·exact nM z
       ·exact na _ z List.mem_cons_self
      ·rcases List.mem_append.mp z with z | z
       ·exact nM2 z
       ·exact na _ z (uf _ List.mem_cons_self)
     rw [h2.put_none hf];have:=S.upG (i:=0) (Hs':=uq) (H':=L2.upd H1 a (.ins C' dx (fvs++[(f,y)]))) (e':=.on a (.obj C' (fs++[(f,d)]))) (v':=.ref a) W rfl hv (fun b o n eb=>by
       have:b≠a:=fun z=>n ⟨_,O',by rw [z];exact List.mem_cons_self⟩;rw [aD this];exact W1.keep _ _ eb) (fun b o eb=>by rw [aD (aK eb aM)];exact W1.sub _ _ eb) W1.base W1.new
       ⟨rfl,_,ON,fun b hb=>by
        rcases List.mem_cons.mp hb with rfl | hb
        ·exact aM
        ·rcases List.mem_cons.mp hb with rfl | hb
         ·exact W1.stay h3 (nL _ (uf _ List.mem_cons_self))
         ·rcases List.mem_append.mp hb with hb | hb
          ·obtain ⟨o,ho⟩:=aY.cell _ h2 b hb;exact W1.stay ho (nL _ (uf _ (uf _ hb)))
          ·exact (n1 b hb).2⟩
       (fun b ⟨L',f',hb⟩=>by
        rw [Own.uniq _ f' ON] at hb;rcases List.mem_cons.mp hb with rfl | hb
        ·exact .inl ⟨_,O',List.mem_cons_self⟩
        ·rcases List.mem_cons.mp hb with rfl | hb
         ·exact .inl ⟨_,O',uf _ List.mem_cons_self⟩
         ·rcases List.mem_append.mp hb with hb | hb
          ·exact .inl ⟨_,O',uf _ (uf _ hb)⟩
          ·exact .inr (n1 b hb).1)
     rw [set_same hv] at this;exact P σ uq _ this.1 this.2
   ·rw [if_neg hc] at e;cases e
end
noncomputable def spIN (C:Addr) (n:Nat) (m:List D->Option (List (Str×D))):Sp:=fun vs H Q _=>∃ H1 Hs p dx us ds fs,ds.length=n/\vs=.ref p::us/\H=L2.upd (L2.upd H1 dx (.own p)) p (.ins C dx [])/\H1 p=none/\H1 dx=none/\dx≠p/\aO Hs H1/\aC Hs ds us/\m ds=some fs/\
 ∀ Hs' H' L,Wd H1 Hs Hs' H'->Own H' (.obj C fs) (.ref p) L->(∀ a∈L,H1 a=none/\Hs' a=none)->Q .non H'
noncomputable def h7 (k:Nat) (C:Addr) (F:FS) (ds:List D) (p:Addr):Option (List (Str×D)):=match F (some (.on p (.obj C []))::(ds.map (fun d=>some (.sh d))++List.replicate (k-(ds.length+1)) none)) with
 | some (.nx (some (.on a (.obj C' fs))::_))=>if a=p/\C'=C then some fs else none
 | _=>none
section
variable {P:Program} {w:World} {K:Frag} {mg:Str->Option Value} {base:Heap}
theorem fn_IN {x qual:Str} {st:Stmt} {f C:Addr} {fd:FuncData} {N ps:List Str} {k n:Nat} {F:FS} {m:List D->Option (List (Str×D))} (hn:ps.length=n+1) (F0:Fun K x qual st f fd) (S:d6 N ps (au st))
  (hm:∀ ds fs,m ds=some fs->∀ p,h7 N.length C F ds p=some fs)
  (h:∀ (ux:Value) (A:Around) (outer:List Env) (s:Shared) (H:Hp) (E:XK),bG k (A.deeper (envOfC qual (au st) s.heap.objs.size f ux))->DSs (j8 CX0 P w K mg base N qual (au st) f ux A outer s H E).nox (aU st) F) :
  eM P w K mg base CX0 (k+1) f fd ps (spIN C n m):=by
 refine F0.ok S (fun vs H Q E' hs=>?_) (fun ux A outer s H vs Q E' hr hs=>?_)
 ·obtain ⟨H1,Hs,p,dx,us,ds,fs,e1,rfl,_,_,_,_,_,r,_⟩:=hs;rw [List.length_cons,r.length,e1,hn]
 ·obtain ⟨H1,Hs,p,dx,us,ds,fs,e1,rfl,rfl,np,nd,ne,sub,r,em,post⟩:=hs;refine ⟨_,(h ux A outer s _ E' hr).go H1 Hs,?_⟩;have em:=hm ds fs em p;unfold h7 at em;have np':(L2.upd H1 dx (.own p)) p=none:=by rw [aD (Ne.symm ne)];exact np
  have W0:Wd H1 Hs Hs (L2.upd (L2.upd H1 dx (.own p)) p (.ins C dx [])):=(Wd.fresh sub nd).trans (.fresh (sub.trans (.new nd)) np');have hsp:Hs p=none:=sub.free np;have hsd:Hs dx=none:=sub.free nd;have O0:Own (L2.upd (L2.upd H1 dx (.own p)) p (.ins C dx [])) (.obj C []) (.ref p) [p,dx]:=by
   unfold Own;refine ⟨p,dx,[],[],rfl,aB,?_,by unfold aY;exact ⟨rfl,rfl⟩,fun z=>(by cases z),fun z=>(by cases z),rfl⟩;rw [aD ne,aB]
  have in2:∀ b∈[p,dx],H1 b=none/\Hs b=none:=fun b hb=>by
   rcases List.mem_cons.mp hb with rfl | hb
   ·exact ⟨np,hsp⟩
   ·rcases List.mem_cons.mp hb with rfl | hb
    ·exact ⟨nd,hsd⟩
    ·cases hb
  have St0:StR H1 Hs (L2.upd (L2.upd H1 dx (.own p)) p (.ins C dx [])) (some (.on p (.obj C []))::(ds.map (fun d=>some (E.sh d))++List.replicate (N.length-(ds.length+1)) none)) (L2.start N (.ref p::us)):=by
   have hN:n+1<=N.length:=by
    have:=congrArg List.length S.pre;rw [List.length_take,hn] at this;omega
   have get:∀ (i:Nat) (en:E),(ds.map (fun d=>some (E.sh d))++List.replicate (N.length-(ds.length+1)) none)[i]?=some (some en)->∃ d,ds[i]?=some d/\en=E.sh d:=fun i en h=>by
    by_cases hi:i<ds.length
    ·rw [List.getElem?_append_left (by simpa using hi),List.getElem?_map] at h;cases q:ds[i]? with
     | none=>rw [q] at h;cases h
     | some d=>rw [q] at h;cases h;exact ⟨d,rfl,rfl⟩
    ·rw [List.getElem?_append_right (by simpa using hi),List.getElem?_replicate] at h;split at h <;> cases h
   refine ⟨fun i en h=>?_,?_,fun i e v b h hv f=>?_,fun i j e e' v v' b hij h h' _ _ f f'=>?_⟩
   ·cases i with
    | zero=>
     cases h;exact ⟨.ref p,rfl,rfl,[p,dx],O0,fun b hb=>(in2 b hb).2⟩
    | succ i=>
     obtain ⟨d,hd,rfl⟩:=get i en (by simpa using h);obtain ⟨v,hv,rv⟩:=r.get hd;refine ⟨v,?_,rv⟩;unfold L2.start;have hi:i<us.length:=(List.getElem?_eq_some_iff.mp hv).1;rw [List.map_cons,List.cons_append,ug,List.getElem?_append_left (by simpa using hi),List.getElem?_map,hv];rfl
   ·unfold L2.start;simp [r.length]
   ·cases i with
    | zero=>
     cases h;have hv':(some (some (V.ref p)):Option (Option V))=some (some v):=hv;cases hv';obtain ⟨L,O,hb⟩:=f;rw [Own.uniq _ O O0] at hb;exact (in2 b hb).1
    | succ i=>obtain ⟨d,_,z⟩:=get i _ (by simpa using h);rw [z] at f;cases f
   ·cases i with
    | zero=>
     cases j with
     | zero=>exact hij rfl
     | succ j=>obtain ⟨d,_,z⟩:=get j _ (by simpa using h');rw [z] at f';cases f'
    | succ i=>obtain ⟨d,_,z⟩:=get i _ (by simpa using h);rw [z] at f;cases f
  cases eF:F (some (.on p (.obj C []))::(ds.map (fun d=>some (E.sh d))++List.replicate (N.length-(ds.length+1)) none)) with
  | none=>rw [eF] at em;cases em
  | some res=>
   rw [eF] at em;refine ⟨Hs,_,res,W0,St0,eF,?_⟩
   match res,em with
   | .nx (some (.on a (.obj C' fs'))::rest),em=>
    by_cases hc:a=p/\C'=C
    ·simp only [if_pos hc] at em;cases em;obtain ⟨rfl,rfl⟩:=hc;intro σ uq H1' W1 S1;obtain ⟨v,hv,ev,L,O,nL⟩:=S1.ent 0 _ rfl;subst ev;exact post uq H1' L W1 O fun b hb=>⟨S1.new 0 _ _ b rfl hv ⟨L,O,hb⟩,nL b hb⟩
    ·simp only [if_neg hc] at em;cases em
end
noncomputable def fu (C:Addr) (n:Nat) (m:List D->Option (List (Str×D))) (fa:DSt->Option (List R)):FN:=fun δ=>(fa δ).bind fun rs=>if rs.length=n/\dd rs=true then (m (rs.map R.view)).map (.obj C) else none
theorem tN_make {C:Addr} {n:Nat} {m:List D->Option (List (Str×D))} {fr:DSt->Option (List R)} {E:XK} {σ:St} {H:Hp} {Q:VK} (h:tN (fu C n m fr) σ H Q):tMake C (spIN C n m) [] E (tDA fr) σ H Q:=by
 obtain ⟨Hs,δ,r,S,En,e,K⟩:=h;unfold fu at e;cases ea:fr δ with
 | none=>rw [ea] at e;cases e
 | some rs=>
  rw [ea] at e;replace e:(if rs.length=n/\dd rs=true then (m (rs.map R.view)).map (.obj C) else none)=some r:=e;refine ⟨Hs,δ,rs,S,En,ea,fun vs uq H1 W1 R1 x dx nx nd ne=>?_⟩;by_cases hc:rs.length=n/\dd rs=true
  ·rw [if_pos hc] at e;cases em:m (rs.map R.view) with
   | none=>rw [em] at e;cases e
   | some fs=>
    rw [em] at e;cases e;obtain ⟨uv,q1,q2,q3,q4⟩:=R1.freeze W1.sub;have W2:Wd H Hs uv H1:=⟨W1.keep,q2,W1.base.trans q3,fun a o e=>by
     rcases q4 (iD hc.2) a o e with z | z
     ·exact W1.new a o z
     ·exact .inr z⟩
    rw [List.append_nil];refine ⟨H1,uv,x,dx,vs,_,fs,by rw [uk];exact hc.1,rfl,rfl,nx,nd,ne,q2,q1,em,fun Hs3 H3 L W3 O n3=>⟨rfl,?_⟩⟩;exact K (.ref x) Hs3 H3 L (W2.trans W3) O fun a ha=>⟨W1.keep.free (n3 a ha).1,(n3 a ha).2⟩
  ·rw [if_neg hc] at e;cases e
noncomputable def jF (i:Nat) (t:DSt->Option Bool) (F G:FS):FS:=fun δ=>(t (frz i δ)).bind fun b=>if b=true then F δ else G δ
noncomputable def mq (i k:Nat) (f:FE):FS:=fun δ=>(f (frz i δ)).bind fun r=>match r with
 | .sh d=>if d.flat=true then some (.nx (δ.set k (some (.sh d)))) else none
 | _=>none
theorem Wd.lend {H Hs uq uv H2:Hp} (s:aO Hs H) (w:Wd H uq uv H2):Wd H Hs Hs H2:=⟨w.keep,s.trans w.keep,.refl _,fun _ _ e=>.inl e⟩
section
variable {X:Cx} {c e:Expr} {a b:List Stmt} {t:DSt->Option Bool} {F G:FS} {f:FE} {pos:Pos}
theorem ds_ifB {i:Nat} (hc:DT X c t) (ha:DSs X a F) (hb:DSs X b G):DS X (.If c a b pos) (jF i t F G):=.mk fun H0 uw=>(ps_if hc.go (ha.go H0 uw) (hb.go H0 uw)).weak fun D σ H ⟨Hs,δ,res,W,S,e,P⟩=>by
 unfold jF at e;cases et:t (frz i δ) with
 | none=>rw [et] at e;cases e
 | some k=>
  rw [et] at e;obtain ⟨uq,W1,S1⟩:=S.frz (i:=i) W;refine ⟨uq,_,k,W1.sub,S1.ent,et,fun uv H2 W2=>?_⟩;have W3:=W2.lend W.sub;cases k with
  | true=>show (if true=true then tS H0 uw F D σ H2 else tS H0 uw G D σ H2);rw [if_pos rfl];exact ⟨Hs,δ,res,W.trans W3,S.mono W3,e,P⟩
  | false=>show (if false=true then tS H0 uw F D σ H2 else tS H0 uw G D σ H2);rw [if_neg Bool.false_ne_true];exact ⟨Hs,δ,res,W.trans W3,S.mono W3,e,P⟩
theorem ds_setB {i k:Nat} {x:Str} {pos':Pos} (hN:X.N.Nodup) (hi:X.N[k]?=some x) (hx:Loc X.env.scope x) (he:DE X e f) (hs:swapsWith e (some (.Name x pos')) pos.line X.env=pure false:=by rfl)
  (hf:X.fn x=true\/X.env.scope.names.lookup x=some .local:=by first | exact .inl rfl | exact .inr rfl | assumption):DS X (.Assign [.Name x pos'] e pos) (mq i k f):=.mk fun H0 uw=>(lS hN hi hx he.go hs hf).weak fun D σ H ⟨Hs,δ,res,W,S,e,P⟩=>by
 unfold mq at e;cases et:f (frz i δ) with
 | none=>rw [et] at e;cases e
 | some r=>
  rw [et] at e;obtain ⟨uq,W1,S1⟩:=S.frz (i:=i) W;refine ⟨uq,_,r,W1.sub,S1.ent,et,fun v uv H2 W2 R2=>?_⟩
  match r,e,R2 with
  | .sh d,e,R2=>
   replace e:(if d.flat=true then some (Res.nx (δ.set k (some (.sh d)))) else none)=some res:=e;by_cases hf:d.flat=true
   ·rw [if_pos hf] at e;cases e;have W3:=W2.lend W.sub;exact P _ Hs H2 (W.trans W3) (S.put W.keep W3 (Rep.flat hf R2) fun b z=>by cases z)
   ·rw [if_neg hf] at e;cases e
end
noncomputable def oIs:D->D->Option R
 | .bl b,.bl c=>some (.sh (.bl (decide (b=c))))
 | .non,.bl _=>some (.sh (.bl false))
 | .int _,.bl _=>some (.sh (.bl false))
 | .str _,.bl _=>some (.sh (.bl false))
 | .lst _,.bl _=>some (.sh (.bl false))
 | .tup _,.bl _=>some (.sh (.bl false))
 | .obj _ _,.bl _=>some (.sh (.bl false))
 | .non,.non=>some (.sh (.bl true))
 | .bl _,.non=>some (.sh (.bl false))
 | .int _,.non=>some (.sh (.bl false))
 | .str _,.non=>some (.sh (.bl false))
 | .lst _,.non=>some (.sh (.bl false))
 | .tup _,.non=>some (.sh (.bl false))
 | .obj _ _,.non=>some (.sh (.bl false))
 | _,_=>none
noncomputable def kj (a b:D):Option R:=(oIs a b).bind fun r=>match r with
 | .sh (.bl x)=>some (.sh (.bl (!x)))
 | _=>none
section
variable {X:Cx}
theorem is_vals {H Hs:Hp} {a b:D} {x y:V} {v u:Value} {r:R} (S:aO Hs H) (va:View Hs H a x) (vb:View Hs H b y) (rx:RelV x v) (ry:RelV y u) (e:oIs a b=some r):plainIs v u=true/\r=.sh (.bl (v==u)):=by
 have key:∀ (x:V),RelV x v->(∀ q,x≠.bl q)->(∀ n,x≠.ty n)->(x=.non->v=.none)/\∀ c,plainIs v (.bool c)=true/\(v==Value.bool c)=false/\plainIs v .none=true/\(x≠.non->(v==Value.none)=false):=fun x rx nq nt=>by
  cases x with
  | non=>cases rx;exact ⟨fun _=>rfl,fun c=>⟨rfl,rfl,rfl,fun z=>absurd rfl z⟩⟩
  | bl q=>exact absurd rfl (nq q)
  | int i=>obtain ⟨t,rfl⟩:=rx;exact ⟨fun z=>(by cases z),fun c=>⟨rfl,rfl,rfl,fun _=>rfl⟩⟩
  | str i=>obtain ⟨t,rfl⟩:=rx;exact ⟨fun z=>(by cases z),fun c=>⟨rfl,rfl,rfl,fun _=>rfl⟩⟩
  | byt i=>obtain ⟨t,rfl⟩:=rx;exact ⟨fun z=>(by cases z),fun c=>⟨rfl,rfl,rfl,fun _=>rfl⟩⟩
  | flt i=>obtain ⟨t,rfl⟩:=rx;exact ⟨fun z=>(by cases z),fun c=>⟨rfl,rfl,rfl,fun _=>rfl⟩⟩
  | ref i=>cases rx;exact ⟨fun z=>(by cases z),fun c=>⟨rfl,rfl,rfl,fun _=>rfl⟩⟩
  | ty n=>exact absurd rfl (nt n)
 have fin:∀ {x:V},RelV x v->(∀ q,x≠.bl q)->(∀ n,x≠.ty n)->x≠.non->((∃ c,y=.bl c)\/y=.non)->r=.sh (.bl false)->plainIs v u=true/\r=.sh (.bl (v==u)):=fun {x} rx nq nt nn hy er=>by
  have:=(key x rx nq nt).2;rcases hy with ⟨c,rfl⟩ | rfl
  ·cases ry;rw [er,(this c).2.1];exact ⟨(this c).1,rfl⟩
  ·cases ry;rw [er,(this true).2.2.2 nn];exact ⟨(this true).2.2.1,rfl⟩
 match a,b,e,va,vb with
 | .bl p,.bl c,e,va,vb=>
  cases e;have h1:=va.bl;have h2:=vb.bl;subst h1;subst h2;cases rx;cases ry;refine ⟨rfl,?_⟩;cases p <;> cases c <;> rfl
 | .non,.non,e,va,vb=>
  cases e;have h1:=va.non;have h2:=vb.non;subst h1;subst h2;cases rx;cases ry;exact ⟨rfl,rfl⟩
 | .non,.bl c,e,va,vb=>
  cases e;have h1:=va.non;have h2:=vb.bl;subst h1;subst h2;cases rx;cases ry;exact ⟨rfl,rfl⟩
 | .bl p,.non,e,va,vb=>
  cases e;have h1:=va.bl;have h2:=vb.non;subst h1;subst h2;cases rx;cases ry;exact ⟨rfl,rfl⟩
 | .int _,.bl _,e,va,vb=>cases e;have h1:=va.int;subst h1;exact fin rx (fun _ z=>by cases z) (fun _ z=>by cases z) (fun z=>by cases z) (.inl ⟨_,vb.bl⟩) rfl
 | .str _,.bl _,e,va,vb=>cases e;have h1:=va.str;subst h1;exact fin rx (fun _ z=>by cases z) (fun _ z=>by cases z) (fun z=>by cases z) (.inl ⟨_,vb.bl⟩) rfl
 | .lst _,.bl _,e,va,vb=>cases e;obtain ⟨a,vs,h1,_⟩:=va.lst S;subst h1;exact fin rx (fun _ z=>by cases z) (fun _ z=>by cases z) (fun z=>by cases z) (.inl ⟨_,vb.bl⟩) rfl
 | .tup _,.bl _,e,va,vb=>cases e;obtain ⟨a,vs,h1,_⟩:=va.tup S;subst h1;exact fin rx (fun _ z=>by cases z) (fun _ z=>by cases z) (fun z=>by cases z) (.inl ⟨_,vb.bl⟩) rfl
 | .obj _ _,.bl _,e,va,vb=>cases e;obtain ⟨a,dx,vs,h1,_⟩:=va.obj S;subst h1;exact fin rx (fun _ z=>by cases z) (fun _ z=>by cases z) (fun z=>by cases z) (.inl ⟨_,vb.bl⟩) rfl
 | .int _,.non,e,va,vb=>cases e;have h1:=va.int;subst h1;exact fin rx (fun _ z=>by cases z) (fun _ z=>by cases z) (fun z=>by cases z) (.inr vb.non) rfl
 | .str _,.non,e,va,vb=>cases e;have h1:=va.str;subst h1;exact fin rx (fun _ z=>by cases z) (fun _ z=>by cases z) (fun z=>by cases z) (.inr vb.non) rfl
 | .lst _,.non,e,va,vb=>cases e;obtain ⟨a,vs,h1,_⟩:=va.lst S;subst h1;exact fin rx (fun _ z=>by cases z) (fun _ z=>by cases z) (fun z=>by cases z) (.inr vb.non) rfl
 | .tup _,.non,e,va,vb=>cases e;obtain ⟨a,vs,h1,_⟩:=va.tup S;subst h1;exact fin rx (fun _ z=>by cases z) (fun _ z=>by cases z) (fun z=>by cases z) (.inr vb.non) rfl
 | .obj _ _,.non,e,va,vb=>cases e;obtain ⟨a,dx,vs,h1,_⟩:=va.obj S;subst h1;exact fin rx (fun _ z=>by cases z) (fun _ z=>by cases z) (fun z=>by cases z) (.inr vb.non) rfl
theorem op_oIs:OpR X (compareOp .Is) (rD oIs):=by
 intro pins s σ H x y v u Q I rx ry h;obtain ⟨Hs,a,b,r,S,va,vb,e,K⟩:=h;obtain ⟨hp,rfl⟩:=is_vals S va vb rx ry e;exact wpAny_is_plain hp (fin_bl I (K (.bl (v==u)) Hs H (.refl S) (shB _ _ _ _)) rfl)
theorem oa:OpR X (compareOp .IsNot) (rD kj):=by
 intro pins s σ H x y v u Q I rx ry h;obtain ⟨Hs,a,b,r,S,va,vb,e,K⟩:=h;unfold kj at e;cases eo:oIs a b with
 | none=>rw [eo] at e;cases e
 | some r0=>
  rw [eo] at e;obtain ⟨hp,rfl⟩:=is_vals S va vb rx ry eo;cases e;exact wpAny_isNot_plain hp (fin_bl I (K (.bl (!(v==u))) Hs H (.refl S) (shB _ _ _ _)) rfl)
end
inductive Stp where
 | f (C:Addr) (g:Str)
 | x (n:Nat)
noncomputable def setF (g:Str) (h:D->D):List (Str×D)->List (Str×D)
  | []=>[]
  | (k,e)::r=>if k=g then (k,h e)::r else (k,e)::setF g h r
noncomputable def setX (n:Nat) (h:D->D) (ds:List D):List D:=match ds[n]? with
 | some e=>ds.set n (h e)
 | none=>ds
noncomputable def sub:D->List Stp->Option D
 | d,[]=>some d
 | .obj C fs,.f C' g::π=>if C=C' then (fs.lookup g).bind (sub · π) else none
 | .lst ds,.x n::π=>ds[n]?.bind (sub · π)
 | .tup ds,.x n::π=>ds[n]?.bind (sub · π)
 | _,_::_=>none
noncomputable def putAt:D->List Stp->D->D
 | _,[],d'=>d'
 | .obj C fs,.f _ g::π,d'=>.obj C (setF g (putAt · π d') fs)
 | .lst ds,.x n::π,d'=>.lst (setX n (putAt · π d') ds)
 | .tup ds,.x n::π,d'=>.tup (setX n (putAt · π d') ds)
 | d,_::_,_=>d
noncomputable def At (H:Hp):D->V->List Stp->D->V->Prop
 | d,v,[],d',v'=>d'=d/\v'=v
 | .obj C fs,v,.f C' g::π,d',v'=>C=C'/\∃ a dx fvs w e,v=.ref a/\H a=some (.ins C dx fvs)/\fs.lookup g=some e/\fvs.lookup g=some w/\At H e w π d' v'
 | .lst ds,v,.x n::π,d',v'=>∃ a vs w e,v=.ref a/\H a=some (.lst vs)/\ds[n]?=some e/\vs[n]?=some w/\At H e w π d' v'
 | .tup ds,v,.x n::π,d',v'=>∃ a vs w e,v=.ref a/\H a=some (.tup vs)/\ds[n]?=some e/\vs[n]?=some w/\At H e w π d' v'
 | _,_,_::_,_,_=>False
theorem aF.part {H:Hp}:∀ {ds:List D} {vs:List V} {L:List Addr} {n:Nat} {e:D} {w:V},aF H ds vs L->ds[n]?=some e->vs[n]?=some w->
  ∃ M,Own H e w M/\(∀ b∈M,b∈L)/\∀ H' e' M',(∀ b,b∉M->H' b=H b)->Own H' e' w M'->(∀ b∈M',b∈M)->∃ L',aF H' (ds.set n e') vs L'/\∀ b∈L',b∈L
 | [],_,_,n,e,w,h,he,hw=>by simp at he
 | d::ds,_,_,0,e,w,h,he,hw=>by
  unfold aF at h;obtain ⟨v,r,A,B,rfl,h1,h2,k,rfl⟩:=h;simp at he hw;subst he;subst hw;refine ⟨A,h1,fun b hb=>List.mem_append_left _ hb,fun H' e' M' ag o s=>⟨M'++B,?_,fun b hb=>?_⟩⟩
  ·rw [List.set_cons_zero];unfold aF;exact ⟨v,r,M',B,rfl,o,h2.agree _ fun b hb=>ag b fun z=>k b z hb,fun b hb hb'=>k b (s b hb) hb',rfl⟩
  ·rcases List.mem_append.mp hb with hb | hb
   ·exact List.mem_append_left _ (s b hb)
   ·exact List.mem_append_right _ hb
 | d::ds,_,_,n+1,e,w,h,he,hw=>by
  unfold aF at h;obtain ⟨v,r,A,B,rfl,h1,h2,k,rfl⟩:=h;simp at he hw;obtain ⟨M,o,s,p⟩:=aF.part h2 he hw;refine ⟨M,o,fun b hb=>List.mem_append_right _ (s b hb),fun H' e' M' ag o' s'=>?_⟩;obtain ⟨L',q1,q2⟩:=p H' e' M' ag o' s';refine ⟨A++L',?_,fun b hb=>?_⟩
  ·rw [List.set_cons_succ];unfold aF;exact ⟨v,r,A,L',rfl,h1.agree _ fun b hb=>ag b fun z=>k b hb (s b z),q1,fun b hb hb'=>k b hb (q2 b hb'),rfl⟩
  ·rcases List.mem_append.mp hb with hb | hb
   ·exact List.mem_append_left _ hb
   ·exact List.mem_append_right _ (q2 b hb)
theorem aY.part {H:Hp} {g:Str}:∀ {fs:List (Str×D)} {vs:List (Str×V)} {L:List Addr} {e:D} {w:V},aY H fs vs L->fs.lookup g=some e->vs.lookup g=some w->
    ∃ M,Own H e w M/\(∀ b∈M,b∈L)/\∀ H' (h:D->D) M',(∀ b,b∉M->H' b=H b)->Own H' (h e) w M'->(∀ b∈M',b∈M)->∃ L',aY H' (setF g h fs) vs L'/\∀ b∈L',b∈L
  | [],_,_,e,w,h,he,hw=>by simp at he
  | (c,d)::fs,_,_,e,w,h,he,hw=>by
    unfold aY at h;obtain ⟨v,r,A,B,rfl,h1,h2,k,rfl⟩:=h;rw [List.lookup_cons] at he hw;cases hx:g==c with
    | true=>
      rw [hx] at he hw;cases he;cases hw;have hc:c=g:=by simpa using (eq_comm.mp (by simpa using hx))
      refine ⟨A,h1,fun b hb=>List.mem_append_left _ hb,fun H' h M' ag o s=>⟨M'++B,?_,fun b hb=>?_⟩⟩
      . unfold setF
        rw [if_pos hc];unfold aY;exact ⟨_,r,M',B,rfl,o,h2.agree _ fun b hb=>ag b fun z=>k b z hb,fun b hb hb'=>k b (s b hb) hb',rfl⟩
      . rcases List.mem_append.mp hb with hb | hb
        . exact List.mem_append_left _ (s b hb)
        . exact List.mem_append_right _ hb
    | false=>
      rw [hx] at he hw;have hc:¬c=g:=fun z=>by subst z;simp at hx
      obtain ⟨M,o,s,p⟩:=aY.part h2 he hw;refine ⟨M,o,fun b hb=>List.mem_append_right _ (s b hb),fun H' h M' ag o' s'=>?_⟩;obtain ⟨L',q1,q2⟩:=p H' h M' ag o' s';refine ⟨A++L',?_,fun b hb=>?_⟩
      . unfold setF
        rw [if_neg hc];unfold aY;exact ⟨v,r,A,L',rfl,h1.agree _ fun b hb=>ag b fun z=>k b hb (s b z),q1,fun b hb hb'=>k b hb (q2 b hb'),rfl⟩
      . rcases List.mem_append.mp hb with hb | hb
        . exact List.mem_append_left _ hb
        . exact List.mem_append_right _ (q2 b hb)
theorem Own.part {H:Hp} {π:List Stp}:∀ {d:D} {v:V} {L:List Addr} {d':D} {v':V},Own H d v L->At H d v π d' v'->
  ∃ M,Own H d' v' M/\(∀ b∈M,b∈L)/\∀ H' e' M',(∀ b,b∉M->H' b=H b)->Own H' e' v' M'->(∀ b∈M',b∈M)->∃ L',Own H' (putAt d π e') v L'/\∀ b∈L',b∈L:=by
 induction π with
 | nil=>
  intro d v L d' v' h a;unfold At at a;obtain ⟨rfl,rfl⟩:=a;exact ⟨L,h,fun b hb=>hb,fun H' e' M' ag o s=>⟨M',by unfold putAt;exact o,s⟩⟩
 | cons stp π ih=>
  intro d v L d' v' h a;cases stp with
  | f C g=>
   cases d with
   | obj C' fs=>
    unfold At at a;obtain ⟨rfl,p,dx,fvs,w,e,rfl,h1,he,hw,a⟩:=a;unfold Own at h;obtain ⟨p',dx',fvs',M0,e1,h1',h3,h2,n1,n2,rfl⟩:=h;cases e1;rw [h1] at h1';cases h1';obtain ⟨Me,oe,se,pe⟩:=aY.part h2 he hw;obtain ⟨M,o,s,q⟩:=ih oe a;refine ⟨M,o,fun b hb=>uf _ (uf _ (se b (s b hb))),fun H' e' M' ag o' s'=>?_⟩;obtain ⟨Le,ol,sl⟩:=q H' e' M' ag o' s';obtain ⟨L',ol',sl'⟩:=pe H' (putAt · π e') Le (fun b hb=>ag b fun z=>hb (s b z)) ol sl;refine ⟨p::dx::L',?_,fun b hb=>?_⟩
    ·unfold putAt Own;exact ⟨p,dx,fvs,L',rfl,by rw [ag p fun z=>n1 (se _ (s _ z))];exact h1,by rw [ag dx fun z=>n2 (se _ (s _ z))];exact h3,ol',fun z=>n1 (sl' _ z),fun z=>n2 (sl' _ z),rfl⟩
    ·rcases List.mem_cons.mp hb with rfl | hb
     ·exact List.mem_cons_self
     ·rcases List.mem_cons.mp hb with rfl | hb
      ·exact uf _ List.mem_cons_self
      ·exact uf _ (uf _ (sl' _ hb))
   | _=>unfold At at a;exact a.elim
  | x n=>
   cases d with
   | lst ds=>
    unfold At at a;obtain ⟨p,vs,w,e,rfl,h1,he,hw,a⟩:=a;unfold Own at h;obtain ⟨p',vs',M0,e1,h1',h2,n1,rfl⟩:=h;cases e1;rw [h1] at h1';cases h1';obtain ⟨Me,oe,se,pe⟩:=aF.part h2 he hw;obtain ⟨M,o,s,q⟩:=ih oe a;refine ⟨M,o,fun b hb=>uf _ (se b (s b hb)),fun H' e' M' ag o' s'=>?_⟩;obtain ⟨Le,ol,sl⟩:=q H' e' M' ag o' s';obtain ⟨L',ol',sl'⟩:=pe H' (putAt e π e') Le (fun b hb=>ag b fun z=>hb (s b z)) ol sl;refine ⟨p::L',?_,fun b hb=>?_⟩
    ·unfold putAt Own setX;rw [he];exact ⟨p,vs,L',rfl,by rw [ag p fun z=>n1 (se _ (s _ z))];exact h1,ol',fun z=>n1 (sl' _ z),rfl⟩
    ·rcases List.mem_cons.mp hb with rfl | hb
     ·exact List.mem_cons_self
     ·exact uf _ (sl' _ hb)
   | tup ds=>
    unfold At at a;obtain ⟨p,vs,w,e,rfl,h1,he,hw,a⟩:=a;unfold Own at h;obtain ⟨p',vs',M0,e1,h1',h2,n1,rfl⟩:=h;cases e1;rw [h1] at h1';cases h1';obtain ⟨Me,oe,se,pe⟩:=aF.part h2 he hw;obtain ⟨M,o,s,q⟩:=ih oe a;refine ⟨M,o,fun b hb=>uf _ (se b (s b hb)),fun H' e' M' ag o' s'=>?_⟩;obtain ⟨Le,ol,sl⟩:=q H' e' M' ag o' s';obtain ⟨L',ol',sl'⟩:=pe H' (putAt e π e') Le (fun b hb=>ag b fun z=>hb (s b z)) ol sl;refine ⟨p::L',?_,fun b hb=>?_⟩
    ·unfold putAt Own setX;rw [he];exact ⟨p,vs,L',rfl,by rw [ag p fun z=>n1 (se _ (s _ z))];exact h1,ol',fun z=>n1 (sl' _ z),rfl⟩
    ·rcases List.mem_cons.mp hb with rfl | hb
     ·exact List.mem_cons_self
     ·exact uf _ (sl' _ hb)
   | _=>unfold At at a;exact a.elim
theorem aF.get {H:Hp}:∀ {ds:List D} {vs:List V} {L:List Addr} {n:Nat} {e:D},aF H ds vs L->ds[n]?=some e->∃ w,vs[n]?=some w
 | [],_,_,_,_,_,he=>by simp at he
 | d::ds,_,_,0,e,h,he=>by unfold aF at h;obtain ⟨v,r,A,B,rfl,_⟩:=h;exact ⟨v,rfl⟩
 | d::ds,_,_,n+1,e,h,he=>by
  unfold aF at h;obtain ⟨v,r,A,B,rfl,h1,h2,_⟩:=h;obtain ⟨w,hw⟩:=aF.get (n:=n) h2 (by simpa using he);exact ⟨w,by simpa using hw⟩
theorem aY.get {H:Hp} {g:Str}:∀ {fs:List (Str×D)} {vs:List (Str×V)} {L:List Addr} {e:D},aY H fs vs L->fs.lookup g=some e->∃ w,vs.lookup g=some w
  | [],_,_,_,_,he=>by simp at he
  | (c,d)::fs,_,_,e,h,he=>by
    unfold aY at h;obtain ⟨v,r,A,B,rfl,h1,h2,_⟩:=h;rw [List.lookup_cons] at he ⊢;cases hx:g==c with
    | true=>exact ⟨v,rfl⟩
    | false=>rw [hx] at he;exact aY.get h2 he
theorem At.one {H:Hp} {π:List Stp}:∀ {d:D} {v:V} {L:List Addr} {d' d'':D} {v':V} {st:Stp},Own H d v L->At H d v π d' v'->sub d' [st]=some d''->∃ v'',At H d' v' [st] d'' v''/\At H d v (π++[st]) d'' v'':=by
 induction π with
 | nil=>
  intro d v L d' d'' v' st h a e;unfold At at a;obtain ⟨rfl,rfl⟩:=a;cases st with
  | f C' g=>
   cases d' with
   | obj C fs=>
    unfold sub at e;by_cases hC:C=C'
    ·rw [if_pos hC] at e;cases el:fs.lookup g with
     | none=>rw [el] at e;cases e
     | some k=>
      rw [el] at e;have:k=d'':=by simpa [sub] using e
      subst this;unfold Own at h;obtain ⟨p,dx,fvs,M,e1,h1,h3,h2,_⟩:=h;obtain ⟨w,hw⟩:=aY.get h2 el;have:At H (.obj C fs) v' [.f C' g] k w:=by
       unfold At;exact ⟨hC,p,dx,fvs,w,k,e1,h1,el,hw,by unfold At;exact ⟨rfl,rfl⟩⟩
      exact ⟨w,this,this⟩
    ·rw [if_neg hC] at e;cases e
   | _=>unfold sub at e;cases e
  | x n=>
   cases d' with
   | lst ds=>
    unfold sub at e;cases el:ds[n]? with
    | none=>rw [el] at e;cases e
    | some k=>
     rw [el] at e;have:k=d'':=by simpa [sub] using e
     subst this;unfold Own at h;obtain ⟨p,vs,M,e1,h1,h2,_⟩:=h;obtain ⟨w,hw⟩:=aF.get h2 el;have:At H (.lst ds) v' [.x n] k w:=by
      unfold At;exact ⟨p,vs,w,k,e1,h1,el,hw,by unfold At;exact ⟨rfl,rfl⟩⟩
     exact ⟨w,this,this⟩
   | tup ds=>
    unfold sub at e;cases el:ds[n]? with
    | none=>rw [el] at e;cases e
    | some k=>
     rw [el] at e;have:k=d'':=by simpa [sub] using e
     subst this;unfold Own at h;obtain ⟨p,vs,M,e1,h1,h2,_⟩:=h;obtain ⟨w,hw⟩:=aF.get h2 el;have:At H (.tup ds) v' [.x n] k w:=by
      unfold At;exact ⟨p,vs,w,k,e1,h1,el,hw,by unfold At;exact ⟨rfl,rfl⟩⟩
     exact ⟨w,this,this⟩
   | _=>unfold sub at e;cases e
 | cons stp π ih=>
  intro d v L d' d'' v' st h a e;cases stp with
  | f C g=>
   cases d with
   | obj C' fs=>
    unfold At at a;obtain ⟨rfl,p,dx,fvs,w,k,rfl,h1,he,hw,a⟩:=a;unfold Own at h;obtain ⟨p',dx',fvs',M0,e1,h1',h3,h2,n1,n2,rfl⟩:=h;cases e1;rw [h1] at h1';cases h1';obtain ⟨Me,oe,_⟩:=aY.part h2 he hw;obtain ⟨v'',a1,a2⟩:=ih oe a e;refine ⟨v'',a1,?_⟩;rw [List.cons_append];unfold At;exact ⟨rfl,p,dx,fvs,w,k,rfl,h1,he,hw,a2⟩
   | _=>unfold At at a;exact a.elim
  | x n=>
   cases d with
   | lst ds=>
    unfold At at a;obtain ⟨p,vs,w,k,rfl,h1,he,hw,a⟩:=a;unfold Own at h;obtain ⟨p',vs',M0,e1,h1',h2,n1,rfl⟩:=h;cases e1;rw [h1] at h1';cases h1';obtain ⟨Me,oe,_⟩:=aF.part h2 he hw;obtain ⟨v'',a1,a2⟩:=ih oe a e;refine ⟨v'',a1,?_⟩;rw [List.cons_append];unfold At;exact ⟨p,vs,w,k,rfl,h1,he,hw,a2⟩
   | tup ds=>
    unfold At at a;obtain ⟨p,vs,w,k,rfl,h1,he,hw,a⟩:=a;unfold Own at h;obtain ⟨p',vs',M0,e1,h1',h2,n1,rfl⟩:=h;cases e1;rw [h1] at h1';cases h1';obtain ⟨Me,oe,_⟩:=aF.part h2 he hw;obtain ⟨v'',a1,a2⟩:=ih oe a e;refine ⟨v'',a1,?_⟩;rw [List.cons_append];unfold At;exact ⟨p,vs,w,k,rfl,h1,he,hw,a2⟩
   | _=>unfold At at a;exact a.elim
theorem sub_f (C C':Addr) (fs:List (Str×D)) (g:Str) (π:List Stp):sub (.obj C fs) (.f C' g::π)=if C=C' then (fs.lookup g).bind (sub · π) else none:=by rw [sub]
theorem sub_l (ds:List D) (n:Nat) (π:List Stp):sub (.lst ds) (.x n::π)=ds[n]?.bind (sub · π):=by rw [sub]
theorem sub_t (ds:List D) (n:Nat) (π:List Stp):sub (.tup ds) (.x n::π)=ds[n]?.bind (sub · π):=by rw [sub]
theorem sub_nil (d:D):sub d []=some d:=by rw [sub]
theorem jG:∀ (π:List Stp) (d:D) (st:Stp),sub d (π++[st])=(sub d π).bind (sub · [st])
 | [],d,st=>by rw [sub_nil];rfl
 | .f C g::π,.obj C' fs,st=>by
  rw [List.cons_append,sub_f,sub_f];by_cases h:C'=C
  ·rw [if_pos h,if_pos h];cases fs.lookup g with
   | none=>rfl
   | some e=>exact jG π e st
  ·rw [if_neg h,if_neg h];rfl
 | .x n::π,.lst ds,st=>by
  rw [List.cons_append,sub_l,sub_l];cases ds[n]? with
  | none=>rfl
  | some e=>exact jG π e st
 | .x n::π,.tup ds,st=>by
  rw [List.cons_append,sub_t,sub_t];cases ds[n]? with
  | none=>rfl
  | some e=>exact jG π e st
 | .f C g::π,.non,st=>rfl
 | .f C g::π,.bl _,st=>rfl
 | .f C g::π,.int _,st=>rfl
 | .f C g::π,.str _,st=>rfl
 | .f C g::π,.lst _,st=>rfl
 | .f C g::π,.tup _,st=>rfl
 | .x n::π,.non,st=>rfl
 | .x n::π,.bl _,st=>rfl
 | .x n::π,.int _,st=>rfl
 | .x n::π,.str _,st=>rfl
 | .x n::π,.obj _ _,st=>rfl
noncomputable def tP (i:Nat) (π:List Stp):TE:=fun σ H Q=>∃ v d d' L,σ[i]?=some (some v)/\Own H d v L/\sub d π=some d'/\∀ v',At H d v π d' v'->Q v' H
structure DP (X:Cx) (e:Expr) (i:Nat) (π:List Stp):Prop where
 go:PE X e (tP i π)
section
variable {X:Cx} {e:Expr} {i:Nat} {π:List Stp} {pos:Pos}
theorem dp_var {x:Str} (h:PE X (.Name x pos) (iY i)):DP X (.Name x pos) i []:=.mk <| h.weak fun σ H Q ⟨v,d,d',L,hv,o,es,K⟩=>by
 have:d=d':=by simpa [sub] using es
 subst this;exact ⟨v,hv,K v (by unfold At;exact ⟨rfl,rfl⟩)⟩
theorem dp_fld {C:Addr} {g:Str} (h:DP X e i π) (hk:Cls X.K C/\NoAttr X.K C g) (hb:attributeBase e g X.env (eval e X.env)=eval e X.env:=by rfl):DP X (.Attribute e g pos) i (π++[.f C g]):=.mk <|
 (pe_fld h.go hb).weak fun σ H Q ⟨v,d,d'',L,hv,o,es,K⟩=>by
  rw [jG] at es;cases e1:sub d π with
  | none=>rw [e1] at es;cases es
  | some d'=>
   rw [e1] at es;refine ⟨v,d,d',L,hv,o,e1,fun v' a=>?_⟩;obtain ⟨v'',a1,a2⟩:=At.one o a es
   match d',a1 with
   | .obj C' fs,a1=>
    unfold At at a1;obtain ⟨rfl,p,dx,fvs,w,k,rfl,h1,he,hw,a1⟩:=a1;unfold At at a1;obtain ⟨rfl,rfl⟩:=a1;exact ⟨p,C',dx,fvs,v'',rfl,h1,hk.1,hk.2,hw,K v'' a2⟩
theorem dp_ix {n:Nat} {b:Expr} (h:DP X e i π) (hb:PE X b (tC (.int n))) (hs:jr b):DP X (.Subscript e b pos) i (π++[.x n]):=.mk <|
 (pe_ix ((oQ (X:=X)).or ix_tup) h.go hb hs).weak fun σ H Q ⟨v,d,d'',L,hv,o,es,K⟩=>by
  rw [jG] at es;cases e1:sub d π with
  | none=>rw [e1] at es;cases es
  | some d'=>
   rw [e1] at es;refine ⟨v,d,d',L,hv,o,e1,fun v' a=>?_⟩;obtain ⟨v'',a1,a2⟩:=At.one o a es
   match d',a1 with
   | .lst ds,a1=>
    unfold At at a1;obtain ⟨p,vs,w,k,rfl,h1,he,hw,a1⟩:=a1;unfold At at a1;obtain ⟨rfl,rfl⟩:=a1;exact .inl ⟨p,vs,n,v'',rfl,rfl,.of h1,atI_nat hw,K v'' a2⟩
   | .tup ds,a1=>
    unfold At at a1;obtain ⟨p,vs,w,k,rfl,h1,he,hw,a1⟩:=a1;unfold At at a1;obtain ⟨rfl,rfl⟩:=a1;exact .inr ⟨p,vs,n,v'',rfl,rfl,.of h1,atI_nat hw,K v'' a2⟩
end
noncomputable def smut (i:Nat) (π:List Stp) (op:List D->Option (List D)):FS:=fun δ=>match δ[i]? with
 | some (some (.nw d))=>(sub d π).bind fun d'=>match d' with
  | .lst ds=>(op ds).bind fun ds'=>some (.nx (δ.set i (some (.nw (putAt d π (.lst ds'))))))
  | _=>none
 | _=>none
theorem aF.take {H:Hp}:∀ {ds:List D} {vs:List V} {L:List Addr} (n:Nat),aF H ds vs L->∃ L',aF H (ds.take n) (vs.take n) L'/\∀ b∈L',b∈L
 | [],_,_,n,h=>by unfold aF at h;obtain ⟨rfl,rfl⟩:=h;simp;exact ⟨[],by unfold aF;exact ⟨rfl,rfl⟩,fun b hb=>by cases hb⟩
 | d::ds,_,_,0,h=>⟨[],by simp;unfold aF;exact ⟨rfl,rfl⟩,fun b hb=>by cases hb⟩
 | d::ds,_,_,n+1,h=>by
  unfold aF at h;obtain ⟨v,r,A,B,rfl,h1,h2,k,rfl⟩:=h;obtain ⟨L',q1,q2⟩:=aF.take n h2;refine ⟨A++L',?_,fun b hb=>?_⟩
  ·simp only [List.take_succ_cons];unfold aF;exact ⟨v,_,A,L',rfl,h1,q1,fun b hb hb'=>k b hb (q2 b hb'),rfl⟩
  ·rcases List.mem_append.mp hb with hb | hb
   ·exact List.mem_append_left _ hb
   ·exact List.mem_append_right _ (q2 b hb)
theorem StR.mut {H0 uw Hs H:Hp} {δ:DSt} {σ:St} {i:Nat} {π:List Stp} {d:D} {ds:List D} {v:V} {l:V} (W:Wd H0 uw Hs H) (S:StR H0 Hs H δ σ) (q:δ[i]?=some (some (.nw d))) (hv:σ[i]?=some (some v)) (a:At H d v π (.lst ds) l) :
  ∃ p vs M,l=.ref p/\H p=some (.lst vs)/\aF H ds vs M/\∀ ds' vs' M',aF H ds' vs' M'->(∀ b∈M',b∈M)->Wd H0 uw Hs (L2.upd H p (.lst vs'))/\StR H0 Hs (L2.upd H p (.lst vs')) (δ.set i (some (.nw (putAt d π (.lst ds'))))) σ:=by
 obtain ⟨L,O,nL⟩:=S.rep q hv;obtain ⟨M1,o1,s1,pt⟩:=Own.part O a;have o1':=o1;unfold Own at o1;obtain ⟨p,vs,M,e1,h1,h2,n,rfl⟩:=o1;refine ⟨p,vs,M,e1,h1,h2,fun ds' vs' M' o' sM=>?_⟩;have nM':p∉M':=fun z=>n (sM _ z);obtain ⟨L',ol,sl⟩:=pt (L2.upd H p (.lst vs')) (.lst ds') (p::M') (fun b hb=>aD fun z=>hb (by rw [z];exact List.mem_cons_self)) (by
  unfold Own;exact ⟨p,vs',M',e1,aB,o'.agree _ fun b hb=>aD fun z=>nM' (by rw [<-z];exact hb),nM',rfl⟩) (fun b hb=>by
  rcases List.mem_cons.mp hb with rfl | hb
  ·exact List.mem_cons_self
  ·exact uf _ (sM b hb))
 have pL:p∈L:=s1 p List.mem_cons_self;have:=S.upG (Hs':=Hs) (H':=L2.upd H p (.lst vs')) (e':=.nw (putAt d π (.lst ds'))) (v':=v) W q hv (fun b o nb eb=>by
   have:b≠p:=fun z=>nb ⟨L,O,by rw [z];exact pL⟩;rw [aD this];exact eb) (fun b o eb=>by rw [aD (aK eb (nL p pL))];exact W.sub _ _ eb) (.refl _) (fun _ _ e=>.inl e) ⟨L',ol,fun b hb=>nL b (sl b hb)⟩
   (fun b ⟨L'',f,hb⟩=>.inl ⟨L,O,by rw [Own.uniq _ f ol] at hb;exact sl b hb⟩)
 rw [set_same hv] at this;exact this
section
variable {X:Cx} {e o:Expr} {i:Nat} {π:List Stp} {pos apos cpos:Pos}
noncomputable def og (ds:List D):Option (List D):=if ds=[] then none else some ds.dropLast
theorem ds_mpop (h:DP X o i π) (uy:attributeBase o "pop" X.env (eval o X.env)=eval o X.env:=by rfl) (uz:(apos.endLine==cpos.line)=true:=by rfl)
  (hsw:swapsWith (.Call (.Attribute o "pop" apos) [] [] cpos) none pos.line X.env=pure false:=by rfl):DS X (.Expr (.Call (.Attribute o "pop" apos) [] [] cpos) pos) (smut i π og):=.mk fun H0 uw=>
 (iB (pe_bm0 plainAttrs_list PySem.F.slot_list_pop PySem.F.type_list_pop mt_pop h.go uy uz) hsw).weak fun D σ H ⟨Hs,δ,res,W,S,e,P⟩=>by
  unfold smut at e;cases q:δ[i]? with
  | none=>rw [q] at e;cases e
  | some z=>
   rw [q] at e
   match z,e with
   | some (.nw d),e=>
    obtain ⟨v,hv,L,O,nL⟩:=S.ent i _ q;cases es:sub d π with
    | none=>simp only [es] at e;cases e
    | some d'=>
     simp only [es,Option.bind] at e
     match d',e,es with
     | .lst ds,e,es=>
      refine ⟨v,d,_,L,hv,O,es,fun v' a=>?_⟩;obtain ⟨p,vs,M,rfl,h1,h2,K⟩:=S.mut W q hv a;refine ⟨.inl ⟨rfl,vs,.of h1⟩,?_⟩;by_cases hd:ds=[]
      ·simp only [og,if_pos hd] at e;cases e
      ·simp only [og,if_neg hd] at e;cases e;have hlen:=h2.length;have hpos:0<vs.length:=by rw [hlen];exact List.length_pos_iff.mpr hd
       have hy:vs[vs.length-1]?=some vs[vs.length-1]:=List.getElem?_eq_getElem (by omega);obtain ⟨M',o',sM⟩:=h2.take (ds.length-1);have ed:ds.take (ds.length-1)=ds.dropLast:=(List.dropLast_eq_take ..).symm;have ev:vs.take (ds.length-1)=vs.dropLast:=by rw [<-hlen];exact (List.dropLast_eq_take ..).symm
       rw [ed,ev] at o';obtain ⟨W1,S1⟩:=K _ _ _ o' sM;exact ⟨p,vs,_,rfl,rfl,h1,hy,P σ Hs _ W1 S1⟩
noncomputable def kL (i:Nat) (π:List Stp) (f:FE):FS:=fun δ=>match δ[i]? with
 | some (some (.nw d))=>(sub d π).bind fun d'=>match d' with
  | .lst ds=>if ds.length<=big then (f δ).bind fun r=>match r with
   | .sh x=>if x.flat=true then some (.nx (δ.set i (some (.nw (putAt d π (.lst (ds++[x]))))))) else none
   | _=>none
   else none
  | _=>none
 | _=>none
theorem At.mono {H H':Hp} (k:aO H H'):∀ {π:List Stp} {d:D} {v:V} {d':D} {v':V},At H d v π d' v'->At H' d v π d' v'
 | [],d,v,d',v',h=>by unfold At at h ⊢;exact h
 | .f C g::π,.obj C' fs,v,d',v',h=>by
  unfold At at h ⊢;obtain ⟨e0,p,dx,fvs,w,e,e1,h1,he,hw,a⟩:=h;exact ⟨e0,p,dx,fvs,w,e,e1,k _ _ h1,he,hw,At.mono k a⟩
 | .x n::π,.lst ds,v,d',v',h=>by
  unfold At at h ⊢;obtain ⟨p,vs,w,e,e1,h1,he,hw,a⟩:=h;exact ⟨p,vs,w,e,e1,k _ _ h1,he,hw,At.mono k a⟩
 | .x n::π,.tup ds,v,d',v',h=>by
  unfold At at h ⊢;obtain ⟨p,vs,w,e,e1,h1,he,hw,a⟩:=h;exact ⟨p,vs,w,e,e1,k _ _ h1,he,hw,At.mono k a⟩
theorem mr {f:FE} (h:DP X o i π) (he:DE X e f) (uy:attributeBase o "append" X.env (eval o X.env)=eval o X.env:=by rfl)
  (vc:((backTo cpos (starEach [e] X.env)).all (fun x=>!x.1)&&(backToKw cpos (keywordEach [] X.env)).all (fun x=>x.1.isSome)
   &&decide ([e].length+([]:List Keyword).length+(if ([]:List Keyword).isEmpty then 0 else 1)<30))=true:=by rfl)
  (uz:(apos.endLine==cpos.line)=true:=by rfl) (hs:starEach [e] X.env=(false,eval e X.env)::starEach [] X.env:=by rfl)
  (hsw:swapsWith (.Call (.Attribute o "append" apos) [e] [] cpos) none pos.line X.env=pure false:=by rfl) :
  DS X (.Expr (.Call (.Attribute o "append" apos) [e] [] cpos) pos) (kL i π f):=.mk fun H0 uw=>
 (iB (pe_bm plainAttrs_list F.slot_list_append F.type_list_append iC h.go (bM he.go cX hs) uy vc uz hs) hsw).weak fun D σ H ⟨Hs,δ,res,W,S,e,P⟩=>by
  unfold kL at e;cases q:δ[i]? with
  | none=>rw [q] at e;cases e
  | some z=>
   rw [q] at e
   match z,e with
   | some (.nw d),e=>
    obtain ⟨v,hv,L,O,nL⟩:=S.ent i _ q;cases es:sub d π with
    | none=>simp only [es] at e;cases e
    | some d'=>
     simp only [es,Option.bind] at e
     match d',e,es with
     | .lst ds,e,es=>
      replace e:(if ds.length<=big then (f δ).bind fun r=>match r with
       | .sh x=>if x.flat=true then some (Res.nx (δ.set i (some (.nw (putAt d π (.lst (ds++[x]))))))) else none
       | _=>none
       else none)=some res:=e
      by_cases hz:ds.length<=big
      ·rw [if_pos hz] at e;cases ef:f δ with
       | none=>rw [ef] at e;cases e
       | some r=>
        rw [ef] at e;refine ⟨v,d,_,L,hv,O,es,fun v' a=>?_⟩;obtain ⟨p0,vs0,_,e0,h10,_⟩:=S.mut W q hv a;subst e0;refine ⟨.inl ⟨rfl,vs0,.of h10⟩,Hs,δ,r,W.sub,S.ent,ef,fun y uq H1 W1 R1=>?_⟩
        match r,e,R1 with
        | .sh x,e,R1=>
         replace e:(if x.flat=true then some (Res.nx (δ.set i (some (.nw (putAt d π (.lst (ds++[x]))))))) else none)=some res:=e;by_cases hf:x.flat=true
         ·rw [if_pos hf] at e;cases e;obtain ⟨p,vs,M,ep,h1,h2,K⟩:=(S.mono W1).mut (W.trans W1) q hv (At.mono W1.keep a);cases ep;obtain ⟨W2,S2⟩:=K (ds++[x]) (vs++[y]) (M++[]) (h2.snoc (Own.flat hf R1) fun b _ hb=>by cases hb) (fun b hb=>by simpa using hb);refine ⟨_,vs,y,rfl,rfl,h1,?_,P σ uq _ W2 S2⟩;rw [h2.length];exact bS hz
         ·rw [if_neg hf] at e;cases e
      ·rw [if_neg hz] at e;cases e
end
section
variable {X:Cx} {e:Expr} {es:List Expr} {fr:DSt->Option (List R)} {x:Str} {p pos:Pos} {id T:String}
theorem dn_u {qual:Str} {st:Stmt} {ps:List Str} {f:Addr} {fd:FuncData} {k n:Nat} {m:List D->Option D} (d:Df X.K X.mg x qual st ps f fd) (G:eM X.prog X.w X.K X.mg X.base CX0 k f fd ps (spN n m)) (hr:bG k X.A) (ha:DA X (e::es) fr)
 (hg:Gl X x:=by rfl) (vp:(x==("__debug__" : Str))=false:=by decide) (he:starEach (e::es) X.env=(false,eval e X.env)::starEach es X.env:=by exact bY rfl) (hpl:(backTo pos (starEach es X.env)).any (·.1)=false:=by rfl) :
 DN X (.Call (.Name x p) (e::es) [] pos) (cP n m fr):=.mk <| (oP (E:=E0) G hr hg d.mgx d.fn.kp d.bd .nil lX ha.go vp he hpl).weak fun _ _ _=>tN_call
theorem dn_mk {C f:Addr} {fd:FuncData} {ps:List Str} {k n:Nat} {m:List D->Option (List (Str×D))} (M:Mk X.K C f) (G:eM X.prog X.w X.K X.mg X.base CX0 k f fd ps (spIN C n m)) (hb:Binds X.K fd ps []) (hm:X.mg x=some (.ref C)) (hr:bG (k+1) X.A) (ha:DA X (e::es) fr)
 (hg:Gl X x:=by rfl) (vp:(x==("__debug__" : Str))=false:=by decide) (he:starEach (e::es) X.env=(false,eval e X.env)::starEach es X.env:=by exact bY rfl) (hpl:(backTo pos (starEach es X.env)).any (·.1)=false:=by rfl) :
 DN X (.Call (.Name x p) (e::es) [] pos) (fu C n m fr):=.mk <| (pe_make (E:=E0) M G hr hg hm hb .nil lX ha.go vp he hpl).weak fun _ _ _=>tN_make
end
section
variable {δ:DSt} {f:FE} {g h:FN} {gs:DSt->Option (List D)} {fr:DSt->Option (List R)} {t:DSt->Option Bool} {F G:FS}
@[simp] theorem nflat_e:dL f δ=(f δ).bind R.toN:=rfl
@[simp] theorem toN_sh (d:D):(R.sh d).toN=if d.flat=true then some d else none:=rfl
@[simp] theorem toN_fr (ds:List D):(R.fr ds).toN=if ds.all D.flat=true then some (.lst ds) else none:=rfl
@[simp] theorem dnw_e:dnw g δ=(g δ).map .sh:=rfl
@[simp] theorem nanil_e:mn δ=some []:=rfl
@[simp] theorem nacons_e:dY g gs δ=(g δ).bind fun d=>(gs δ).bind fun ds=>some (d::ds):=rfl
@[simp] theorem ntup_e:ntup gs δ=(gs δ).bind fun ds=>if ds.length<=big then some (.tup ds) else none:=rfl
@[simp] theorem nlst_e:nlst gs δ=(gs δ).bind fun ds=>if ds.length<=big then some (.lst ds) else none:=rfl
@[simp] theorem nif_e:nif t g h δ=(t δ).bind fun k=>if k=true then g δ else h δ:=rfl
@[simp] theorem o9 (n:Nat) (m:List D->Option D):cP n m fr δ=(fr δ).bind fun rs=>if rs.length=n/\dd rs=true then m (rs.map R.view) else none:=rfl
@[simp] theorem jH (C:Addr) (n:Nat) (m:List D->Option (List (Str×D))):fu C n m fr δ=(fr δ).bind fun rs=>if rs.length=n/\dd rs=true then (m (rs.map R.view)).map (.obj C) else none:=rfl
@[simp] theorem ssetN_e (i:Nat):jE i g δ=(g δ).bind fun d=>some (.nx (δ.set i (some (.nw d)))):=rfl
@[simp] theorem sretN_e:gN g δ=(g δ).bind fun d=>some (.rn d):=rfl
@[simp] theorem ncomp_e (fi:DSt->Option (List D)) (g:GD) (c:DSt->Option Bool) (fe:FN) (m:Nat) (ix:List Nat):mo fi g c fe m ix δ=(fi δ).bind fun items=>if items.length<=big then (c8 g c fe (dIn m ix δ) items).map .lst else none:=rfl
@[simp] theorem runN_e (k:Nat) (F:FS) (ds:List D):runN k F ds=match F (ds.map (fun d=>some (.sh d))++List.replicate (k-ds.length) none) with
 | some (.rt r)=>r.toN
 | some (.nx _)=>some .non
 | some (.rn d)=>some d
 | _=>none:=rfl
@[simp] theorem sfldN_e (C C' a:Addr) (f:Str) (fs:List (Str×D)) (r:DSt):kK C f g (some (.on a (.obj C' fs))::r)=if C'=C/\fs.length<1000/\fs.lookup f=none then (g (some (.on a (.obj C' fs))::r)).bind fun d=>some (.nx (some (.on a (.obj C (fs++[(f,d)])))::r)) else none:=rfl
@[simp] theorem sifB_e (i:Nat):jF i t F G δ=(t (frz i δ)).bind fun b=>if b=true then F δ else G δ:=rfl
theorem qt (g:GD) (c:DSt->Option Bool) (fe:FN) (δ:DSt) {α:Type} (enc:α->D) (p:α->Bool) (out:α->D) (xs:List α)
  (h:∀ x∈xs,∃ δ1,g (enc x) δ=some δ1/\c δ1=some (p x)/\(p x=true->fe δ1=some (out x))) :
  c8 g c fe δ (xs.map enc)=some ((xs.filter p).map out):=by
 induction xs with
 | nil=>rfl
 | cons x xs ih=>
  obtain ⟨δ1,h1,h2,h3⟩:=h x List.mem_cons_self;have ih:=ih fun y hy=>h y (uf _ hy);rw [List.map_cons];unfold c8;rw [h1];show ((c δ1).bind fun b=>if b=true then (fe δ1).bind fun r1=>(c8 g c fe δ (xs.map enc)).bind fun t=>some (r1::t) else c8 g c fe δ (xs.map enc))=_;rw [h2];show (if p x=true then (fe δ1).bind fun r1=>(c8 g c fe δ (xs.map enc)).bind fun t=>some (r1::t) else c8 g c fe δ (xs.map enc))=_;by_cases hp:p x=true
  ·rw [if_pos hp,h3 hp,ih];simp [hp,List.filter_cons]
  ·rw [if_neg hp,ih];simp [hp,List.filter_cons]
end
open Classical in
noncomputable def gO (K:Frag) (i:Nat) (δ:DSt):Option (List Int):=match δ[i]? with
 | some (some (.scr K' ns))=>if K'=K then some ns else none
 | _=>none
theorem kl {K:Frag} {i:Nat} {δ:DSt} {ns:List Int} (h:gO K i δ=some ns):δ[i]?=some (some (.scr K ns)):=by
 unfold gO at h;split at h
 ·rename_i K' ns' e;split at h
  ·rename_i ek;cases h;rw [e,ek]
  ·cases h
 ·cases h
noncomputable def dlenS (K:Frag) (i:Nat):FE:=fun δ=>(gO K i δ).map fun ns=>.sh (.int ns.length)
noncomputable def dixS (K:Frag) (i:Nat) (f:FE):FE:=fun δ=>(f δ).bind fun r=>match r with
 | .sh (.int k)=>(gO K i δ).bind fun ns=>(atI ns k).map fun n=>.sh (.int n)
 | _=>none
noncomputable def jd (K:Frag) (i:Nat) (m:List Int->Int->Option Int) (f:FE):FE:=fun δ=>(f δ).bind fun r=>match r with
 | .sh (.int k)=>(gO K i δ).bind fun ns=>(m ns k).map fun n=>.sh (.int n)
 | _=>none
noncomputable def spS (K:Frag) (m:List Int->Int->Option Int):Sp:=fun vs H Q _=>∃ a k ns n,vs=[.ref a,.int k]/\SqL K H a (ns.map V.int)/\m ns k=some n/\∀ Hs H',aO H H'->Wd H H Hs H'->Q (.int n) H'
noncomputable def spL (K:Frag) (m:List Int->Option D):Sp:=fun vs H Q _=>∃ a ns d,vs=[.ref a]/\SqL K H a (ns.map V.int)/\m ns=some d/\∀ v Hs' H',Wd H H Hs' H'->Rep Hs' d v->Q v H'
noncomputable def runS (k:Nat) (K:Frag) (F:FS) (ns:List Int) (n:Int):Option Int:=match F (some (.scr K ns)::some (.sh (.int n))::List.replicate (k-2) none) with
 | some (.rt (.sh (.int j)))=>some j
 | _=>none
noncomputable def runL (k:Nat) (K:Frag) (F:FS) (ns:List Int):Option D:=match F (some (.scr K ns)::List.replicate (k-1) none) with
 | some (.rt r)=>if r.isBw=true then none else some r.view
 | _=>none
theorem atI_map {α β:Type} {f:α->β} {xs:List α} {k:Int} {x:α} (h:atI xs k=some x):atI (xs.map f) k=some (f x):=by
 unfold atI at h ⊢;simp only [uk] at h ⊢;cases e:ixN xs.length k with
 | none=>rw [e] at h;cases h
 | some j=>
  rw [e] at h;replace h:xs[j]?=some x:=h;show (xs.map f)[j]?=some (f x);rw [List.getElem?_map,h];rfl
section
variable {X:Cx} {e:Expr} {x:Str} {p pos:Pos} {i:Nat} {f:FE}
theorem de_lenS (h:PE X (.Name x p) (iY i)) (hg:Gl X "len") (hm:X.mg "len" = none) (hs:starEach [.Name x p] X.env=[(false,eval (.Name x p) X.env)]:=by rfl) {p0:Pos} :
  DE X (.Call (.Name "len" p0) [.Name x p] [] pos) (dlenS X.K i):=.mk <| (fV gr hg hm PySem.boot_len (bM h cX hs) (he:=hs)).weak fun σ H Q ⟨Hs,δ,r,S,En,e,K⟩=>by
 unfold dlenS at e;cases es:gO X.K i δ with
 | none=>rw [es] at e;cases e
 | some ns=>
  rw [es] at e;cases e;obtain ⟨v,hv,a,ev,hq⟩:=En i _ (kl es);refine ⟨v,hv,a,ns.map V.int,by rw [ev],.inl (g6 S hq),?_⟩;rw [uk];exact K _ Hs H (.refl S) (by show Rep Hs _ _;unfold Rep;rfl)
theorem de_ixS (h:PE X (.Name x p) (iY i)) (hb:DE X e f) (hs:jr e):DE X (.Subscript (.Name x p) e pos) (dixS X.K i f):=.mk <| (pe_ix oQ h hb.go hs).weak fun σ H Q ⟨Hs,δ,r,S,En,e,K⟩=>by
 unfold dixS at e;cases ef:f δ with
 | none=>rw [ef] at e;cases e
 | some rf=>
  rw [ef] at e
  match rf,e with
  | .sh (.int k),e=>
   replace e:((gO X.K i δ).bind fun ns=>(atI ns k).map fun n=>R.sh (.int n))=some r:=e;cases es:gO X.K i δ with
   | none=>rw [es] at e;cases e
   | some ns=>
    rw [es] at e;replace e:((atI ns k).map fun n=>R.sh (.int n))=some r:=e;cases ea:atI ns k with
    | none=>rw [ea] at e;cases e
    | some n=>
     rw [ea] at e;cases e;obtain ⟨v,hv,a,ev,hq⟩:=En i _ (kl es);refine ⟨v,hv,Hs,δ,.sh (.int k),S,En,ef,fun y uq H1 W1 R1=>?_⟩;have R1:Rep uq (.int k) y:=R1;unfold Rep at R1;exact ⟨a,ns.map V.int,k,.int n,ev,R1,g6 (S.trans W1.keep) hq,atI_map ea,K _ uq H1 W1 (by show Rep uq _ _;unfold Rep;rfl)⟩
theorem de_callS {y qual:Str} {st:Stmt} {ps:List Str} {fa:Addr} {fd:FuncData} {k:Nat} {m:List Int->Int->Option Int} {py:Pos} (d:Df X.K X.mg y qual st ps fa fd) (G:eM X.prog X.w X.K X.mg X.base CX0 k fa fd ps (spS X.K m)) (hr:bG k X.A)
  (h:PE X (.Name x p) (iY i)) (hb:DE X e f)
  (hg:Gl X y:=by rfl) (vp:(y==("__debug__" : Str))=false:=by decide) (he:starEach [.Name x p,e] X.env=(false,eval (.Name x p) X.env)::starEach [e] X.env:=by exact bY rfl) (hs:starEach [e] X.env=[(false,eval e X.env)]:=by exact bY rfl) (hpl:(backTo pos (starEach [e] X.env)).any (·.1)=false:=by rfl) :
  DE X (.Call (.Name y py) [.Name x p,e] [] pos) (jd X.K i m f):=.mk <| (oP (E:=E0) G hr hg d.mgx d.fn.kp d.bd .nil lX (bM h (bM hb.go cX hs) he) vp he hpl).weak fun σ H Q ⟨Hs,δ,r,S,En,e,K⟩=>by
 unfold jd at e;cases ef:f δ with
 | none=>rw [ef] at e;cases e
 | some rf=>
  rw [ef] at e
  match rf,e with
  | .sh (.int k),e=>
   replace e:((gO X.K i δ).bind fun ns=>(m ns k).map fun n=>R.sh (.int n))=some r:=e;cases es:gO X.K i δ with
   | none=>rw [es] at e;cases e
   | some ns=>
    rw [es] at e;replace e:((m ns k).map fun n=>R.sh (.int n))=some r:=e;cases ea:m ns k with
    | none=>rw [ea] at e;cases e
    | some n=>
     rw [ea] at e;cases e;obtain ⟨v,hv,a,ev,hq⟩:=En i _ (kl es);refine ⟨v,hv,Hs,δ,.sh (.int k),S,En,ef,fun y uq H1 W1 R1=>?_⟩;have R1:Rep uq (.int k) y:=R1;unfold Rep at R1;refine ⟨a,k,ns,n,by rw [ev,R1];rfl,g6 (S.trans W1.keep) hq,ea,fun uv H2 s2 W2=>?_⟩;exact K _ uq H2 (W1.trans ⟨s2,W1.sub.trans s2,.refl _,fun _ _ e=>.inl e⟩) (by show Rep uq _ _;unfold Rep;rfl)
noncomputable def gP (f:FE):FS:=fun δ=>(f δ).bind fun _=>some (.nx δ)
theorem pb (h:DE X e f) (hs:swapsWith e none pos.line X.env=pure false:=by rfl):DS X (.Expr e pos) (gP f):=.mk fun H0 uw=>(iB h.go hs).weak fun D σ H ⟨Hs,δ,res,W,S,e,P⟩=>by
 unfold gP at e;cases ef:f δ with
 | none=>rw [ef] at e;cases e
 | some r=>
  rw [ef] at e;cases e;exact ⟨Hs,δ,r,W.sub,S.ent,ef,fun v uq H1 W1 R1=>P σ uq H1 (W.trans W1) (S.mono W1)⟩
end
theorem st_scr {K:Frag} {H:Hp} {N:List Str} {a:Addr} {ns:List Int} {ds:List D} {vs:List V} (h:SqL K H a (ns.map V.int)) (r:aC H ds vs) :
  StR H H H (some (.scr K ns)::(ds.map (fun d=>some (E.sh d))++List.replicate (N.length-(ds.length+1)) none)) (L2.start N (.ref a::vs)):=by
 have get:∀ (i:Nat) (e:E),(some (.scr K ns)::(ds.map (fun d=>some (E.sh d))++List.replicate (N.length-(ds.length+1)) none))[i]?=some (some e)->(i=0/\e=.scr K ns)\/∃ j d,i=j+1/\ds[j]?=some d/\e=E.sh d:=fun i e h=>by
  cases i with
  | zero=>simp at h;exact .inl ⟨rfl,h.symm⟩
  | succ i=>
   right;rw [ug] at h;by_cases hi:i<ds.length
   ·rw [List.getElem?_append_left (by simpa using hi),List.getElem?_map] at h;cases q:ds[i]? with
    | none=>rw [q] at h;cases h
    | some d=>rw [q] at h;cases h;exact ⟨i,d,rfl,q,rfl⟩
   ·rw [List.getElem?_append_right (by simpa using hi),List.getElem?_replicate] at h;split at h <;> cases h
 have nf:∀ (i:Nat) (e:E) (v:V) (b:Addr),(some (.scr K ns)::(ds.map (fun d=>some (E.sh d))++List.replicate (N.length-(ds.length+1)) none))[i]?=some (some e)->¬Fp H e v b:=fun i e v b h f=>by
  rcases get i e h with ⟨_,rfl⟩ | ⟨_,d,_,_,rfl⟩ <;> cases f
 refine ⟨fun i e h'=>?_,?_,fun i e v b h _ f=>(nf i e v b h f).elim,fun i j e e' v v' b _ h _ _ _ f=>(nf i e v b h f).elim⟩
 ·rcases get i e h' with ⟨rfl,rfl⟩ | ⟨j,d,rfl,hd,rfl⟩
  ·exact ⟨.ref a,by unfold L2.start;simp,a,rfl,h⟩
  ·obtain ⟨v,hv,rv⟩:=r.get hd;refine ⟨v,?_,rv⟩;unfold L2.start;have hi:j<vs.length:=(List.getElem?_eq_some_iff.mp hv).1;rw [List.getElem?_append_left (by simpa using hi),List.getElem?_map,ug,hv];rfl
 ·unfold L2.start;simp [r.length]
section
variable {P:Program} {w:World} {K:Frag} {mg:Str->Option Value} {base:Heap}
theorem fn_S {x qual:Str} {st:Stmt} {f:Addr} {fd:FuncData} {N:List Str} {p1 p2:Str} {k:Nat} {F:FS} (F0:Fun K x qual st f fd) (S:d6 N [p1,p2] (au st)) (hN:2<=N.length)
  (h:∀ (ux:Value) (A:Around) (outer:List Env) (s:Shared) (H:Hp) (E:XK),bG k (A.deeper (envOfC qual (au st) s.heap.objs.size f ux))->DSs (j8 CX0 P w K mg base N qual (au st) f ux A outer s H E).nox (aU st) F) :
  eM P w K mg base CX0 (k+1) f fd [p1,p2] (spS K (runS N.length K F)):=by
 refine F0.ok S (fun vs H Q E hs=>?_) (fun ux A outer s H vs Q E hr hs=>?_)
 ·obtain ⟨a,k,ns,n,e,_⟩:=hs;rw [e];rfl
 ·obtain ⟨a,j,ns,n,rfl,hq,em,post⟩:=hs;refine ⟨_,(h ux A outer s H E hr).go H H,?_⟩;unfold runS at em;cases eF:F (some (.scr K ns)::some (.sh (.int j))::List.replicate (N.length-2) none) with
  | none=>rw [eF] at em;cases em
  | some res=>
   rw [eF] at em;have St:=st_scr (N:=N) (K:=K) (H:=H) (ds:=[.int j]) (vs:=[.int j]) hq (.cons (by unfold Rep;rfl) .nil);refine ⟨H,_,res,.refl (.refl _),St,eF,?_⟩
   match res,em with
   | .rt (.sh (.int j2)),em=>
    cases em;intro v uq H1 W1 R1;have R1:Rep uq (.int n) v:=R1;unfold Rep at R1;rw [R1];exact post uq H1 W1.keep W1
theorem fn_L {x qual:Str} {st:Stmt} {f:Addr} {fd:FuncData} {N:List Str} {p1:Str} {k:Nat} {F:FS} (F0:Fun K x qual st f fd) (S:d6 N [p1] (au st)) (hN:1<=N.length)
  (h:∀ (ux:Value) (A:Around) (outer:List Env) (s:Shared) (H:Hp) (E:XK),bG k (A.deeper (envOfC qual (au st) s.heap.objs.size f ux))->DSs (j8 CX0 P w K mg base N qual (au st) f ux A outer s H E).nox (aU st) F) :
  eM P w K mg base CX0 (k+1) f fd [p1] (spL K (runL N.length K F)):=by
 refine F0.ok S (fun vs H Q E hs=>?_) (fun ux A outer s H vs Q E hr hs=>?_)
 ·obtain ⟨a,ns,n,e,_⟩:=hs;rw [e];rfl
 ·obtain ⟨a,ns,d,rfl,hq,em,post⟩:=hs;refine ⟨_,(h ux A outer s H E hr).go H H,?_⟩;unfold runL at em;cases eF:F (some (.scr K ns)::List.replicate (N.length-1) none) with
  | none=>rw [eF] at em;cases em
  | some res=>
   rw [eF] at em;have St:=st_scr (N:=N) (K:=K) (H:=H) (ds:=[]) (vs:=[]) hq .nil;refine ⟨H,_,res,.refl (.refl _),St,eF,?_⟩;cases res with
   | nx δ=>cases em
   | bk δ=>cases em
   | ct δ=>cases em
   | rn d=>cases em
   | rt r1=>
    replace em:(if r1.isBw=true then none else some r1.view)=some d:=em;by_cases hb:r1.isBw=true
    ·rw [if_pos hb] at em;cases em
    ·rw [if_neg hb] at em;cases em;intro v uq H1 W1 R1;obtain ⟨uv,q,W2⟩:=R1.share W1 (fun ds z=>hb (by rw [z];rfl));exact post v uv H1 W2 q
end
open Classical in
noncomputable def unif {α:Type} (f:Addr->Option α):Option α:=if h:∃ a,∀ p,f p=some a then some h.choose else none
theorem unif_all {α:Type} {f:Addr->Option α} {a:α} (h:unif f=some a):∀ p,f p=some a:=by
 unfold unif at h;split at h
 ·rename_i e;cases h;exact e.choose_spec
 ·cases h
theorem lI {α:Type} {f:Addr->Option α} {a:α} (h:∀ p,f p=some a):unif f=some a:=by
 unfold unif;rw [dif_pos ⟨a,h⟩];have e:∃ a,∀ p,f p=some a:=⟨a,h⟩;have:=e.choose_spec 0;rw [h 0] at this;exact this.symm
noncomputable def spLaw (K:Frag):Sp:=fun vs H Q _=>∃ (a:Addr) (ns:List Int),vs=[.ref a]/\ns.length<=63/\SqL K H a (ns.map V.int)/\∀ H',aO H H'->Q (.bl true) H'
theorem spLaw_imp {K:Frag} {m:List Int->Option D} (h:∀ ns:List Int,ns.length<=63->m ns=some (.bl true)):∀ vs H Q E,spLaw K vs H Q E->spL K m vs H Q E:=by
 rintro vs H Q E ⟨a,ns,rfl,hl,hq,k⟩;refine ⟨a,ns,.bl true,rfl,hq,h ns hl,fun v Hs' H' W r=>?_⟩;unfold Rep at r;rw [r];exact k H' W.keep
theorem h9 {K:Frag} {C:Addr}:kitOne K (.ref C) (.ref C)=some true:=by
 unfold kitOne;rw [if_pos (by simp)]
theorem kit_sub {K:Frag} {C D:Addr} {oc:Value} {od:Option Addr} {cd:ClassData} {sl:Array (Option Value)} {b:Bool} (h1:K.lookup D=some ⟨oc,od,.cls cd,sl⟩) (h2:typeIn K (.ref D)=some (.type "type"))
  (h3:subIn K (.ref C) (.ref D)=some b) (hn:C≠D):kitOne K (.ref C) (.ref D)=some b:=by
 unfold kitOne;rw [if_neg (by simpa using hn)];show (if ((clsIn K D).isSome&&typeIn K (.ref D)==some (.type "type"))=true then subIn K (.ref C) (.ref D) else none)=some b;have hc:clsIn K D=some cd:=by
  unfold clsIn;rw [show List.lookup D K=_ from h1]
 rw [hc,h2];simpa using h3
theorem kk_int (K:Frag):∀ d b,dU d=some b->∃ t,TyD K d t/\kitOne K t (.type "int")=some b:=fun d b h=>match d,h with
 | .non,h=>⟨_,.non,by cases h;with_unfolding_all rfl⟩
 | .bl _,h=>⟨_,.bl _,by cases h;with_unfolding_all rfl⟩
 | .int _,h=>⟨_,.int _,by cases h;with_unfolding_all rfl⟩
 | .str _,h=>⟨_,.str _,by cases h;with_unfolding_all rfl⟩
 | .lst _,h=>⟨_,.lst _,by cases h;with_unfolding_all rfl⟩
 | .tup _,h=>⟨_,.tup _,by cases h;with_unfolding_all rfl⟩
 | .obj _ _,h=>by cases h
theorem kk_bool (K:Frag):∀ d b,is_bool d=some b->∃ t,TyD K d t/\kitOne K t (.type "bool")=some b:=fun d b h=>match d,h with
 | .non,h=>⟨_,.non,by cases h;with_unfolding_all rfl⟩
 | .bl _,h=>⟨_,.bl _,by cases h;with_unfolding_all rfl⟩
 | .int _,h=>⟨_,.int _,by cases h;with_unfolding_all rfl⟩
 | .str _,h=>⟨_,.str _,by cases h;with_unfolding_all rfl⟩
 | .lst _,h=>⟨_,.lst _,by cases h;with_unfolding_all rfl⟩
 | .tup _,h=>⟨_,.tup _,by cases h;with_unfolding_all rfl⟩
 | .obj _ _,h=>by cases h
theorem kk_list (K:Frag):∀ d b,cF d=some b->∃ t,TyD K d t/\kitOne K t (.type "list")=some b:=fun d b h=>match d,h with
 | .non,h=>⟨_,.non,by cases h;with_unfolding_all rfl⟩
 | .bl _,h=>⟨_,.bl _,by cases h;with_unfolding_all rfl⟩
 | .int _,h=>⟨_,.int _,by cases h;with_unfolding_all rfl⟩
 | .str _,h=>⟨_,.str _,by cases h;with_unfolding_all rfl⟩
 | .lst _,h=>⟨_,.lst _,by cases h;with_unfolding_all rfl⟩
 | .tup _,h=>⟨_,.tup _,by cases h;with_unfolding_all rfl⟩
 | .obj _ _,h=>by cases h
theorem kk_tuple (K:Frag):∀ d b,fq d=some b->∃ t,TyD K d t/\kitOne K t (.type "tuple")=some b:=fun d b h=>match d,h with
 | .non,h=>⟨_,.non,by cases h;with_unfolding_all rfl⟩
 | .bl _,h=>⟨_,.bl _,by cases h;with_unfolding_all rfl⟩
 | .int _,h=>⟨_,.int _,by cases h;with_unfolding_all rfl⟩
 | .str _,h=>⟨_,.str _,by cases h;with_unfolding_all rfl⟩
 | .lst _,h=>⟨_,.lst _,by cases h;with_unfolding_all rfl⟩
 | .tup _,h=>⟨_,.tup _,by cases h;with_unfolding_all rfl⟩
 | .obj _ _,h=>by cases h
noncomputable def Fx (K:Frag) (x qual:Str) (st:Stmt) (ps:List Str):Prop:=∃ f fd,nsIn K mainGlobals x=some (some (.ref f))/\Fun K x qual st f fd/\Binds K fd ps []
noncomputable def FxL (K:Frag) (x qual:Str) (st:Stmt) (p:Str):Prop:=∃ f fd,nsIn K mainGlobals x=some (some (.ref f))/\Fun K x qual st f fd/\Binds K fd [p] []/\∀ (s:Shared) (u:Value),BindsTo s fd ⟨[u],[]⟩ [(p,u)]
noncomputable def Fm (K:Frag) (C:Addr) (x qual:Str) (st:Stmt) (ps:List Str):Prop:=∃ f fd,findIn K (.ref C) x=some (some (.ref f))/\isFn K (.ref f)=true/\Fun K x qual st f fd/\Binds K fd ps []
section
variable {K:Frag} {C:Addr} {x qual p:Str} {st:Stmt} {ps:List Str} {f:Addr} {oc:Value} {od an:Option Addr} {osl:Array (Option Value)} {kV doc pm ux ct:Value}
theorem fx_mk (e1:nsIn K mainGlobals x=some (some (.ref f))) (e2:K.lookup f=some ⟨oc,od,.func (fnOf x qual (bp st) (aU st) (au st) .none kV doc pm an ux ct),osl⟩) (e3:codeIn K ux qual=true) (e4:keepIn K (.ref f)=true)
  (h:∀ (kV doc pm:Value) (an:Option Addr) (ux ct:Value) (us:List Value),us.length=ps.length->bindArgs (fnOf x qual (bp st) (aU st) (au st) .none kV doc pm an ux ct) ⟨us,[]⟩=pure (ps.zip us)):Fx K x qual st ps:=
 ⟨f,_,e1,kc e2 e3 e4,(kc e2 e3 e4).binds h⟩
theorem fxl_mk (e1:nsIn K mainGlobals x=some (some (.ref f))) (e2:K.lookup f=some ⟨oc,od,.func (fnOf x qual (bp st) (aU st) (au st) .none kV doc pm an ux ct),osl⟩) (e3:codeIn K ux qual=true) (e4:keepIn K (.ref f)=true)
  (h:∀ (kV doc pm:Value) (an:Option Addr) (ux ct:Value) (us:List Value),us.length=[p].length->bindArgs (fnOf x qual (bp st) (aU st) (au st) .none kV doc pm an ux ct) ⟨us,[]⟩=pure ([p].zip us)):FxL K x qual st p:=
 ⟨f,_,e1,kc e2 e3 e4,(kc e2 e3 e4).binds h,fun s u=>.of_eq (h _ _ _ _ _ _ [u] rfl)⟩
theorem fm_mk (e1:findIn K (.ref C) x=some (some (.ref f))) (e2:K.lookup f=some ⟨oc,od,.func (fnOf x qual (bp st) (aU st) (au st) .none kV doc pm an ux ct),osl⟩) (e3:codeIn K ux qual=true) (e4:keepIn K (.ref f)=true) (e5:isFn K (.ref f)=true)
  (h:∀ (kV doc pm:Value) (an:Option Addr) (ux ct:Value) (us:List Value),us.length=ps.length->bindArgs (fnOf x qual (bp st) (aU st) (au st) .none kV doc pm an ux ct) ⟨us,[]⟩=pure (ps.zip us)):Fm K C x qual st ps:=
 ⟨f,_,e1,e5,kc e2 e3 e4,(kc e2 e3 e4).binds h⟩
end
theorem Rep.tupS {Hs:Hp} {ds:List D} {x:V} (vw:Rep Hs (.tup ds) x):∃ a vs,x=.ref a/\Hs a=some (.tup vs)/\aC Hs ds vs:=by
 unfold Rep at vw;exact vw
section
variable {X:Cx}
noncomputable def dslT (f:FE) (fl fh:FO):FE:=fun δ=>(f δ).bind fun r=>(fl δ).bind fun lo=>(fh δ).bind fun hi=>match r with
 | .sh (.tup ds)=>if HT.sIx ds.length 0 lo=0/\HT.sIx ds.length ds.length hi=ds.length then none else some (.sh (.tup (cutD ds lo hi)))
 | _=>none
theorem de_slT {e:Expr} {lo hi:Option Expr} {f:FE} {fl fh:FO} {p2 pos:Pos} (he:DE X e f) (hl:DO X lo fl) (hh:DO X hi fh):DE X (.Subscript e (.Slice lo hi none p2) pos) (dslT f fl fh):=.mk <|
 (qb sl_tup he.go hl.go hh.go).weak fun σ H Q ⟨Hs,δ,r,S,En,e,K⟩=>by
  unfold dslT at e;cases ef:f δ with
  | none=>rw [ef] at e;cases e
  | some rf=>
   cases el:fl δ with
   | none=>rw [ef,el] at e;cases e
   | some lo=>
    cases eh:fh δ with
    | none=>rw [ef,el,eh] at e;cases e
    | some hi=>
     rw [ef,el,eh] at e;refine ⟨Hs,δ,rf,S,En,ef,fun x uq H1 W1 R1=>⟨uq,δ,lo,W1.sub,En.mono W1,el,fun uv H2 W2=>⟨uv,δ,hi,W2.sub,En.mono (W1.trans W2),eh,fun Hs3 H3 W3=>?_⟩⟩⟩;have R3:=(R1.mono W2).mono W3;cases rf with
     | sh d=>
      cases d with
      | tup ds=>
       replace e:(if HT.sIx ds.length 0 lo=0/\HT.sIx ds.length ds.length hi=ds.length then none else some (R.sh (.tup (cutD ds lo hi))))=some r:=e;by_cases hc:HT.sIx ds.length 0 lo=0/\HT.sIx ds.length ds.length hi=ds.length
       ·rw [if_pos hc] at e;cases e
       ·rw [if_neg hc] at e;cases e;obtain ⟨a,vs,rfl,h1,h2⟩:=Rep.tupS R3;have W13:=W1.trans (W2.trans W3);refine ⟨a,vs,rfl,.of (W3.sub _ _ h1),by rw [h2.length];exact hc,fun p hp=>K _ (L2.upd Hs3 p (.tup (cutV vs lo hi))) _ (W13.trans (.lay W3.sub hp)) ?_⟩;show Rep _ (.tup _) _;unfold Rep;exact ⟨p,_,rfl,aB,aC.mono (.new (W3.sub.free hp)) _ (qm lo hi h2)⟩
      | _=>cases e
     | _=>cases e
noncomputable def sput (i:Nat) (f g:FE):FS:=fun δ=>match δ[i]? with
 | some (some (.ow ds))=>(g δ).bind fun r=>match r with
  | .sh d=>(f δ).bind fun k=>match k with
   | .sh (.int n)=>(ixN ds.length n).bind fun j=>some (.nx (δ.set i (some (.ow (ds.set j d)))))
   | _=>none
  | _=>none
 | _=>none
noncomputable def sretIf (i:Nat) (t:DSt->Option Bool) (g:FN):FS:=fun δ=>(t (frz i δ)).bind fun b=>if b=true then (match δ[i]? with
  | some (some (.nw d))=>some (.rn d)
  | _=>none)
 else (g (frz i δ)).bind fun d=>some (.rn d)
noncomputable def km (k i:Nat) (g:FN):FS:=fun δ=>(g (frz k δ)).bind fun d=>some (.nx (δ.set i (some (.nw d))))
theorem ds_setNB {k i:Nat} {x:Str} {e:Expr} {g:FN} {pos pos':Pos} (hN:X.N.Nodup) (hi:X.N[i]?=some x) (hx:Loc X.env.scope x) (he:DN X e g) (hs:swapsWith e (some (.Name x pos')) pos.line X.env=pure false:=by rfl)
  (hf:X.fn x=true\/X.env.scope.names.lookup x=some .local:=by first | exact .inl rfl | exact .inr rfl | assumption):DS X (.Assign [.Name x pos'] e pos) (km k i g):=.mk fun H0 uw=>(lS hN hi hx he.go hs hf).weak fun D σ H ⟨Hs,δ,res,W,S,e,P⟩=>by
 unfold km at e;cases et:g (frz k δ) with
 | none=>rw [et] at e;cases e
 | some d=>
  rw [et] at e;cases e;obtain ⟨uq,W1,S1⟩:=S.frz (i:=k) W;refine ⟨uq,_,d,W1.sub,S1.ent,et,fun v uv H2 L W2 O n=>?_⟩;have W3:=W2.lend W.sub;refine P _ Hs H2 (W.trans W3) (S.put W.keep W3 ⟨L,O,fun a ha=>W.sub.free (n a ha).1⟩ fun b ⟨L',O',hb⟩=>?_);rw [Own.uniq _ O' O] at hb;exact (n b hb).1
noncomputable def jI (i:Nat) (t:DSt->Option Bool) (g:FN):FS:=fun δ=>(t (frz i δ)).bind fun b=>if b=true then (g (frz i δ)).bind fun d=>some (.rn d)
 else (match δ[i]? with
  | some (some (.nw d))=>some (.rn d)
  | _=>none)
theorem ds_retIf2 {i:Nat} {x:Str} {c b:Expr} {p pos pos':Pos} {t:DSt->Option Bool} {g:FN} (hc:DT X c t) (hx:PE X (.Name x p) (iY i)) (hb:DN X b g) :
  DS X (.Return (some (.IfExp c b (.Name x p) pos')) pos) (jI i t g):=.mk fun H0 uw=>(oN (lR hc.go hb.go hx)).weak fun D σ H ⟨Hs,δ,res,W,S,e,P⟩=>by
 unfold jI at e;cases et:t (frz i δ) with
 | none=>rw [et] at e;cases e
 | some k=>
  rw [et] at e;obtain ⟨uq,W1,S1⟩:=S.frz (i:=i) W;refine ⟨uq,_,k,W1.sub,S1.ent,et,fun uv H2 W2=>?_⟩;have W3:=W2.lend W.sub;cases k with
  | false=>
   replace e:(match δ[i]? with
    | some (some (.nw d))=>some (Res.rn d)
    | _=>none)=some res:=e
   show (if false=true then tN g σ H2 D.rt else iY i σ H2 D.rt);rw [if_neg Bool.false_ne_true];cases q:δ[i]? with
   | none=>rw [q] at e;cases e
   | some o=>
    cases o with
    | none=>rw [q] at e;cases e
    | some en=>
     rw [q] at e;cases en with
     | nw d=>
      cases e;have S3:=S.mono W3;obtain ⟨v,hv,L,h1,h2⟩:=S3.ent i _ q;exact ⟨v,hv,P _ Hs H2 L (W.trans W3) h1 fun b hb=>⟨S3.new i _ _ b q hv ⟨L,h1,hb⟩,h2 b hb⟩⟩
     | _=>cases e
  | true=>
   replace e:((g (frz i δ)).bind fun d=>some (Res.rn d))=some res:=e;show (if true=true then tN g σ H2 D.rt else iY i σ H2 D.rt);rw [if_pos rfl];cases eg:g (frz i δ) with
   | none=>rw [eg] at e;cases e
   | some d=>
    rw [eg] at e;cases e;have W12:=W1.trans W2;exact ⟨uv,_,d,W2.sub,(S1.mono W2).ent,eg,fun v Hs4 H4 L W4 O n=>P v Hs4 H4 L (W12.trans W4) O fun a ha=>⟨W12.keep.free (n a ha).1,(n a ha).2⟩⟩
@[simp] theorem dslT_e {f:FE} {fl fh:FO} {δ:DSt}:dslT f fl fh δ=(f δ).bind fun r=>(fl δ).bind fun lo=>(fh δ).bind fun hi=>match r with
 | .sh (.tup ds)=>if HT.sIx ds.length 0 lo=0/\HT.sIx ds.length ds.length hi=ds.length then none else some (.sh (.tup (cutD ds lo hi)))
 | _=>none:=rfl
end
section
variable {K:Frag} {C:Addr} {x qual p zx zq:Str} {st st':Stmt} {ps:List Str} {f:Addr} {oc:Value} {od an:Option Addr} {osl:Array (Option Value)} {kV doc pm ux ct:Value}
theorem fx_mk2 (ex:x=zx) (eq:qual=zq) (es:st=st') (e1:nsIn K mainGlobals x=some (some (.ref f))) (e2:K.lookup f=some ⟨oc,od,.func (fnOf zx zq (bp st') (aU st') (au st') .none kV doc pm an ux ct),osl⟩) (e3:codeIn K ux qual=true) (e4:keepIn K (.ref f)=true)
  (h:∀ (kV doc pm:Value) (an:Option Addr) (ux ct:Value) (us:List Value),us.length=ps.length->bindArgs (fnOf x qual (bp st) (aU st) (au st) .none kV doc pm an ux ct) ⟨us,[]⟩=pure (ps.zip us)):Fx K x qual st ps:=by
 subst ex;subst eq;subst es;exact fx_mk e1 e2 e3 e4 h
theorem fxl_mk2 (ex:x=zx) (eq:qual=zq) (es:st=st') (e1:nsIn K mainGlobals x=some (some (.ref f))) (e2:K.lookup f=some ⟨oc,od,.func (fnOf zx zq (bp st') (aU st') (au st') .none kV doc pm an ux ct),osl⟩) (e3:codeIn K ux qual=true) (e4:keepIn K (.ref f)=true)
  (h:∀ (kV doc pm:Value) (an:Option Addr) (ux ct:Value) (us:List Value),us.length=[p].length->bindArgs (fnOf x qual (bp st) (aU st) (au st) .none kV doc pm an ux ct) ⟨us,[]⟩=pure ([p].zip us)):FxL K x qual st p:=by
 subst ex;subst eq;subst es;exact fxl_mk e1 e2 e3 e4 h
theorem fm_mk2 (ex:x=zx) (eq:qual=zq) (es:st=st') (e1:findIn K (.ref C) x=some (some (.ref f))) (e2:K.lookup f=some ⟨oc,od,.func (fnOf zx zq (bp st') (aU st') (au st') .none kV doc pm an ux ct),osl⟩) (e3:codeIn K ux qual=true) (e4:keepIn K (.ref f)=true) (e5:isFn K (.ref f)=true)
  (h:∀ (kV doc pm:Value) (an:Option Addr) (ux ct:Value) (us:List Value),us.length=ps.length->bindArgs (fnOf x qual (bp st) (aU st) (au st) .none kV doc pm an ux ct) ⟨us,[]⟩=pure (ps.zip us)):Fm K C x qual st ps:=by
 subst ex;subst eq;subst es;exact fm_mk e1 e2 e3 e4 e5 h
end
structure Fb (K:Frag) (x qual:Str) (st:Stmt) (ps:List Str) where
 f:Addr
 fd:FuncData
 fn:Fun K x qual st f fd
 bd:Binds K fd ps []
structure Fd (K:Frag) (mg:Str->Option Value) (x:Str) (st:Stmt) (ps:List Str) extends Fb K x x st ps where
 mgx:mg x=some (.ref f)
structure Md (K:Frag) (C:Addr) (x qual:Str) (st:Stmt) (ps:List Str) extends Fb K x qual st ps where
 mt:Meth K C x f
structure Ni (K:Frag) (C:Addr) (qual:Str) (st:Stmt) (ps:List Str) extends Fb K "__init__" qual st ps where
 mk':Mk K C f
structure Cd (K:Frag) (mg:Str->Option Value) (C:Addr) (x:Str):Prop where
 cls:Cls K C
 g:mg x=some (.ref C)
noncomputable def Ka (K:Frag) (f:D->Option Bool) (a:Addr):Prop:=∀ d b,f d=some b->∃ t,TyD K d t/\kitOne K t (.ref a)=some b
noncomputable def pick:List (Addr×Bool)->Addr->Option Bool
  | [],_=>none
  | (a,b)::r,C=>if C=a then some b else pick r C
@[simp] theorem pick_nil (C:Addr):pick [] C=none:=rfl
@[simp] theorem pick_cons (a:Addr) (b:Bool) (r:List (Addr×Bool)) (C:Addr):pick ((a,b)::r) C=if C=a then some b else pick r C:=rfl
noncomputable def isT (t:List (Addr×Bool)):D->Option Bool
 | .obj C _=>pick t C
 | _=>none
@[simp] theorem isT_obj (t:List (Addr×Bool)) (C:Addr) (fs:List (Str×D)):isT t (.obj C fs)=pick t C:=rfl
section
variable {K:Frag} {a C:Addr} {b:Bool} {t:List (Addr×Bool)}
theorem kn:Ka K (isT []) a:=fun d b h=>by cases d <;> cases h
theorem aR (o:∀ fs,TyD K (.obj C fs) (.ref C)) (k:kitOne K (.ref C) (.ref a)=some b) (r:Ka K (isT t) a):Ka K (isT ((C,b)::t)) a:=fun d b' h=>by
 cases d with
 | obj D fs=>
  replace h:(if D=C then some b else pick t D)=some b':=h;split at h
  ·rename_i e;cases h;cases e;exact ⟨_,o fs,k⟩
  ·exact r (.obj D fs) b' h
 | _=>cases h
end
theorem cd_mk {K:Frag} {mg:Str->Option Value} {h:Heap} (KX:K.In h) (G:h.Ns mainGlobals mg) {C:Addr} {x:Str} (e0:nsIn K mainGlobals x=some (some (.ref C))) (e1:plainGet K C Str.empty=true) (e2:hasDictIn K C=true) (e3:plainOver K C=true)
 (e4:findIn K (.ref C) "__setattr__" = some (some (.builtin "object.__setattr__"))):Cd K mg C x:=⟨⟨e1,e2,e3,e4⟩,mg_of KX G e0⟩
theorem ob_mk {K:Frag} {C:Addr} (c:Cls K C) (c2:specialIn K (.builtin "object.__class__") "__get__" = some (some (.builtin "getset_descriptor.__get__"))) (c3:takesIn K (.builtin "object.__class__")=some true)
 (c1:findIn K (.ref C) "__class__" = some (some (.builtin "object.__class__"))) (c4:mroIn K C (.type "object")=some true):∀ fs,TyD K (.obj C fs) (.ref C):=fun fs=>.obj _ c c1 c2 c3 c4
noncomputable def Fd.of {K:Frag} {mg:Str->Option Value} {h:Heap} (KX:K.In h) (G:h.Ns mainGlobals mg) {x:Str} {st:Stmt} {ps:List Str} (e:Fx K x x st ps):Fd K mg x st ps:=
 have e1:=e.choose_spec.choose_spec
 ⟨⟨e.choose,e.choose_spec.choose,e1.2.1,e1.2.2⟩,mg_of KX G e1.1⟩
noncomputable def Md.of {K:Frag} {C:Addr} {x q:Str} {st:Stmt} {ps:List Str} (e:Fm K C x q st ps):Md K C x q st ps:=
 have e1:=e.choose_spec.choose_spec
 ⟨⟨e.choose,e.choose_spec.choose,e1.2.2.1,e1.2.2.2⟩,⟨e1.1,e1.2.1,e1.2.2.1.kp⟩⟩
noncomputable def Ni.of {K:Frag} {C:Addr} {q:Str} {st:Stmt} {ps:List Str} (e:Fm K C "__init__" q st ps) (h1:makesIn K C=true) (h2:keepIn K (.ref C)=true):Ni K C q st ps:=
 have e1:=e.choose_spec.choose_spec
 ⟨⟨e.choose,e.choose_spec.choose,e1.2.2.1,e1.2.2.2⟩,⟨h1,e1.1,e1.2.1,h2⟩⟩
structure Fl' (K:Frag) (mg:Str->Option Value) (st:Stmt) extends Fd K mg "law" st ["_law_script"] where
 bl:∀ (s:Shared) (u:Value),BindsTo s fd ⟨[u],[]⟩ [("_law_script",u)]
noncomputable def Fl'.of {K:Frag} {mg:Str->Option Value} {h:Heap} (KX:K.In h) (G:h.Ns mainGlobals mg) {st:Stmt} (e:FxL K "law" "law" st "_law_script"):Fl' K mg st:=
 have e1:=e.choose_spec.choose_spec
 ⟨⟨⟨e.choose,e.choose_spec.choose,e1.2.1,e1.2.2.1⟩,mg_of KX G e1.1⟩,e1.2.2.2⟩
section
variable {K:Frag} {C:Addr} {x qual p zx zq:Str} {st st':Stmt} {ps:List Str} {f:Addr} {oc:Value} {od an:Option Addr} {osl:Array (Option Value)} {kV doc pm ux ct:Value}
abbrev Bnd (x qual:Str) (st:Stmt) (ps:List Str):Prop:=∀ (kV doc pm:Value) (an:Option Addr) (ux ct:Value) (us:List Value),us.length=ps.length->bindArgs (fnOf x qual (bp st) (aU st) (au st) .none kV doc pm an ux ct) ⟨us,[]⟩=pure (ps.zip us)
theorem fx2 (es:st=st') (e1:nsIn K mainGlobals x=some (some (.ref f))) (e2:K.lookup f=some ⟨oc,od,.func (fnOf zx zq (bp st') (aU st') (au st') .none kV doc pm an ux ct),osl⟩) (e3:codeIn K ux qual=true) (e4:keepIn K (.ref f)=true)
 (h:Bnd x qual st ps:=by first | (exact fun _ _ _ _ _ _ us hl=>match us,hl with | [_],_=>rfl) | (exact fun _ _ _ _ _ _ us hl=>match us,hl with | [_,_],_=>rfl) | (exact fun _ _ _ _ _ _ us hl=>match us,hl with | [_,_,_],_=>rfl) | (exact fun _ _ _ _ _ _ us hl=>match us,hl with | [_,_,_,_],_=>rfl) | (exact fun _ _ _ _ _ _ us hl=>match us,hl with | [_,_,_,_,_],_=>rfl))
 (ex:x=zx:=by kernel_rfl) (eq:qual=zq:=by kernel_rfl):Fx K x qual st ps:=fx_mk2 ex eq es e1 e2 e3 e4 h
theorem fxl2 (es:st=st') (e1:nsIn K mainGlobals x=some (some (.ref f))) (e2:K.lookup f=some ⟨oc,od,.func (fnOf zx zq (bp st') (aU st') (au st') .none kV doc pm an ux ct),osl⟩) (e3:codeIn K ux qual=true) (e4:keepIn K (.ref f)=true)
 (h:Bnd x qual st [p]:=by (exact fun _ _ _ _ _ _ us hl=>match us,hl with | [_],_=>rfl)) (ex:x=zx:=by kernel_rfl) (eq:qual=zq:=by kernel_rfl):FxL K x qual st p:=fxl_mk2 ex eq es e1 e2 e3 e4 h
theorem fm2 (es:st=st') (e1:findIn K (.ref C) x=some (some (.ref f))) (e2:K.lookup f=some ⟨oc,od,.func (fnOf zx zq (bp st') (aU st') (au st') .none kV doc pm an ux ct),osl⟩) (e3:codeIn K ux qual=true) (e4:keepIn K (.ref f)=true) (e5:isFn K (.ref f)=true)
 (h:Bnd x qual st ps:=by first | (exact fun _ _ _ _ _ _ us hl=>match us,hl with | [_],_=>rfl) | (exact fun _ _ _ _ _ _ us hl=>match us,hl with | [_,_],_=>rfl) | (exact fun _ _ _ _ _ _ us hl=>match us,hl with | [_,_,_],_=>rfl) | (exact fun _ _ _ _ _ _ us hl=>match us,hl with | [_,_,_,_],_=>rfl) | (exact fun _ _ _ _ _ _ us hl=>match us,hl with | [_,_,_,_,_],_=>rfl))
 (ex:x=zx:=by kernel_rfl) (eq:qual=zq:=by kernel_rfl):Fm K C x qual st ps:=fm_mk2 ex eq es e1 e2 e3 e4 e5 h
end
abbrev Ok {K:Frag} {x q:Str} {st:Stmt} {ps:List Str} (P:Program) (w:World) (mg:Str->Option Value) (base:Heap) (k:Nat) (F:Fb K x q st ps) (sp:Sp):Prop:=eM P w K mg base CX0 k F.f F.fd ps sp
noncomputable def fO (N ps:List Str) (sc:Scope):Bool:=sc.kind==.function&&!sc.isCoroutine&&!sc.isGenerator&&decide N.Nodup&&N.take ps.length==ps&&ps.all (fun x=>sc.names.lookup x==some .local||sc.names.lookup x==some .cell)&&sc.names.all (fun y=>!(y.2==.free))
theorem fO.fs {N ps:List Str} {sc:Scope} (h:fO N ps sc=true):d6 N ps sc:=by
 unfold fO at h;simp only [um] at h;obtain ⟨⟨⟨⟨⟨⟨a,b⟩,c⟩,d⟩,e⟩,f⟩,g⟩:=h;refine ⟨by simpa using a,by simpa using b,by simpa using c,by simpa using d,by simpa using e,fun x hx=>?_,fun y hy z=>?_⟩
 ·have:=List.all_eq_true.mp f x hx;simpa using this
 ·have:=List.all_eq_true.mp g y hy;simp [z] at this
section
variable {P:Program} {w:World} {K:Frag} {mg:Str->Option Value} {base:Heap} {x q:Str} {st:Stmt} {ps:List Str} {k:Nat} {F:FS}
abbrev Bod (P:Program) (w:World) (mg:Str->Option Value) (base:Heap) (k:Nat) (F0:Fb K x q st ps) (L:List Str) (F:FS):Prop:=
 ∀ (ux:Value) (A:Around) (outer:List Env) (s:Shared) (H:Hp) (E:XK),bG k (A.deeper (envOfC q (au st) s.heap.objs.size F0.f ux))->(ps++L).Nodup->DSs (j8 CX0 P w K mg base (ps++L) q (au st) F0.f ux A outer s H E).nox (aU st) F
theorem fD {F0:Fb K x q st ps} (L:List Str) (h:Bod P w mg base k F0 L F) (S:fO (ps++L) ps (au st)=true:=by kernel_rfl):Ok P w mg base (k+1) F0 (spD ps.length (run (ps++L).length F)):=
 fn_D F0.fn (fO.fs S) fun ux A o s H E hr=>h ux A o s H E hr (fO.fs S).nd
theorem fN {F0:Fb K x q st ps} (L:List Str) (h:Bod P w mg base k F0 L F) (S:fO (ps++L) ps (au st)=true:=by kernel_rfl):Ok P w mg base (k+1) F0 (spN ps.length (runN (ps++L).length F)):=
 fn_N F0.fn (fO.fs S) fun ux A o s H E hr=>h ux A o s H E hr (fO.fs S).nd
theorem fI {F0:Fb K x q st ps} {C:Addr} {n:Nat} (L:List Str) (h:Bod P w mg base k F0 L F) (hn:ps.length=n+1:=by rfl) (S:fO (ps++L) ps (au st)=true:=by kernel_rfl):Ok P w mg base (k+1) F0 (spIN C n (fun ds=>unif fun p=>h7 (ps++L).length C F ds p)):=
 fn_IN hn F0.fn (fO.fs S) (fun ds fs h=>unif_all h) fun ux A o s H E hr=>h ux A o s H E hr (fO.fs S).nd
theorem fS {p1 p2:Str} {F0:Fb K x q st [p1,p2]} (L:List Str) (h:Bod P w mg base k F0 L F) (S:fO ([p1,p2]++L) [p1,p2] (au st)=true:=by kernel_rfl):Ok P w mg base (k+1) F0 (spS K (runS ([p1,p2]++L).length K F)):=
 fn_S F0.fn (fO.fs S) (by simp) fun ux A o s H E hr=>h ux A o s H E hr (fO.fs S).nd
theorem fL {p1:Str} {F0:Fb K x q st [p1]} (L:List Str) (h:Bod P w mg base k F0 L F) (S:fO ([p1]++L) [p1] (au st)=true:=by kernel_rfl):Ok P w mg base (k+1) F0 (spL K (runL ([p1]++L).length K F)):=
 fn_L F0.fn (fO.fs S) (by simp) fun ux A o s H E hr=>h ux A o s H E hr (fO.fs S).nd
end
section
variable {X:Cx} {a b c d e o:Expr} {es:List Expr} {fa fb fc fd fo f:FE} {g:FN} {fr:DSt->Option (List R)} {x y q:Str} {st:Stmt} {ps:List Str} {p pos pos' apos:Pos} {i j k n m':Nat} {C:Addr} {m:List D->Option D} {F G:FS} {body:List Stmt}
theorem dv (hN:X.N[i]?=some x:=by rfl) (hv:Vis X.env.scope x:=by first | exact Or.inl rfl | exact Or.inr (Or.inl rfl) | exact Or.inr (Or.inr rfl)) (hd:(x==("__debug__" : Str))=false:=by decide)
 (hcd:(x==("__classdict__" : Str))=false:=by decide):DE X (.Name x pos) (aa i):=de_var (pv i hN hv hd hcd)
theorem dk {z:Int} (h:∃ t,X.mg x=some (.int z t)) (hg:Gl X x:=by rfl) (hd:(x==("__debug__" : Str))=false:=by decide):DE X (.Name x pos) (ac (.int z)):=by
 obtain ⟨t,h⟩:=h;exact oW (pe_glob (v:=.int z) hg h ⟨_,rfl⟩ hd) fun H=>by unfold Rep;rfl
theorem dx (ha:DE X a fa) (hb:DE X b fb) (hs:jr b:=by exact fun _ _=>rfl):DE X (.Subscript a b pos) (ad oIx fa fb):=de_ix ix_oIx ha hb hs
theorem d1 (ha:DE X e fa) (hs:starEach [e] X.env=(false,eval e X.env)::starEach [] X.env:=by exact bY rfl):DA X [e] (ab fa af):=aj ha fE hs
theorem du {F:Fd X.K X.mg x st ps} (G:Ok X.prog X.w X.mg X.base k F.toFb (spD n m)) (hr:bG j X.A) (ha:DA X (e::es) fr) (hk:k<=j:=by decide)
 (hg:Gl X x:=by rfl) (vp:(x==("__debug__" : Str))=false:=by decide) (he:starEach (e::es) X.env=(false,eval e X.env)::starEach es X.env:=by exact bY rfl) (hpl:(backTo pos (starEach es X.env)).any (·.1)=false:=by rfl) :
 DE X (.Call (.Name x p) (e::es) [] pos) (av n m fr):=de_u ⟨F.fn,F.mgx,F.bd⟩ G (hr.mono hk) ha hg vp he hpl
theorem nu {F:Fd X.K X.mg x st ps} (G:Ok X.prog X.w X.mg X.base k F.toFb (spN n m)) (hr:bG j X.A) (ha:DA X (e::es) fr) (hk:k<=j:=by decide)
 (hg:Gl X x:=by rfl) (vp:(x==("__debug__" : Str))=false:=by decide) (he:starEach (e::es) X.env=(false,eval e X.env)::starEach es X.env:=by exact bY rfl) (hpl:(backTo pos (starEach es X.env)).any (·.1)=false:=by rfl) :
 DN X (.Call (.Name x p) (e::es) [] pos) (cP n m fr):=dn_u ⟨F.fn,F.mgx,F.bd⟩ G (hr.mono hk) ha hg vp he hpl
theorem nk {F:Ni X.K C q st ps} {m:List D->Option (List (Str×D))} (c:Cd X.K X.mg C x) (G:Ok X.prog X.w X.mg X.base k F.toFb (spIN C n m)) (hr:bG j X.A) (ha:DA X (e::es) fr) (hk:k+1<=j:=by decide)
 (hg:Gl X x:=by rfl) (vp:(x==("__debug__" : Str))=false:=by decide) (he:starEach (e::es) X.env=(false,eval e X.env)::starEach es X.env:=by exact bY rfl) (hpl:(backTo pos (starEach es X.env)).any (·.1)=false:=by rfl) :
 DN X (.Call (.Name x p) (e::es) [] pos) (fu C n m fr):=dn_mk F.mk' G F.bd c.g (hr.mono hk) ha hg vp he hpl
theorem dm {F:Md X.K C x q st ps} {pl:Sem Bool} (c:Cls X.K C) (G:Ok X.prog X.w X.mg X.base k F.toFb (spD n m)) (hr:bG j X.A) (ho:DE X o fo) (ha:DA X (e::es) fr) (hk:k<=j:=by decide)
  (hst:starEach (e::es) X.env=(false,eval e X.env)::starEach es X.env:=by rfl) (hpl:(backTo pos (starEach es X.env)).any (·.1)=false:=by rfl)
  (ht:eval (.Call (.Attribute o x apos) (e::es) [] pos) X.env=(do
   let ov <-eval o X.env
   standAt apos.atName
   let (f,first) <-holding [ov] (getMethod ov x pl)
   callWith pos f first (backTo pos (starEach (e::es) X.env)) (backToKw pos (keywordEach [] X.env))):=by rfl):DE X (.Call (.Attribute o x apos) (e::es) [] pos) (bH C x n m fo fr):=
 de_m (pe_meth (E:=E0) ho.go c F.mt G (hr.mono hk) F.bd .nil lX ha.go hst hpl ht)
theorem dm0 {F:Md X.K C x q st ps} {pl:Sem Bool} (c:Cls X.K C) (G:Ok X.prog X.w X.mg X.base k F.toFb (spD n m)) (hr:bG j X.A) (ho:DE X o fo) (hk:k<=j:=by decide)
  (ht:eval (.Call (.Attribute o x apos) [] [] pos) X.env=(do
   let ov <-eval o X.env
   standAt apos.atName
   let (f,first) <-holding [ov] (getMethod ov x pl)
   callWith pos f first (backTo pos (starEach [] X.env)) (backToKw pos (keywordEach [] X.env))):=by rfl):DE X (.Call (.Attribute o x apos) [] [] pos) (bH C x n m fo af):=
 de_m0 (p9 (E:=E0) ho.go c F.mt G (hr.mono hk) F.bd .nil lX ht)
theorem duS {F:Fd X.K X.mg y st ps} {m:List Int->Int->Option Int} {py:Pos} (G:Ok X.prog X.w X.mg X.base k F.toFb (spS X.K m)) (hr:bG j X.A) (h:PE X (.Name x p) (iY i)) (hb:DE X e f) (hk:k<=j:=by decide)
 (hg:Gl X y:=by rfl) (vp:(y==("__debug__" : Str))=false:=by decide) (he:starEach [.Name x p,e] X.env=(false,eval (.Name x p) X.env)::starEach [e] X.env:=by exact bY rfl) (hs:starEach [e] X.env=[(false,eval e X.env)]:=by exact bY rfl) (hpl:(backTo pos (starEach [e] X.env)).any (·.1)=false:=by rfl) :
 DE X (.Call (.Name y py) [.Name x p,e] [] pos) (jd X.K i m f):=de_callS ⟨F.fn,F.mgx,F.bd⟩ G (hr.mono hk) h hb hg vp he hs hpl
theorem df (ho:DE X o fo) (hc:Cls X.K C) (hk:NoAttr X.K C x) (hb:attributeBase o x X.env (eval o X.env)=eval o X.env:=by rfl):DE X (.Attribute o x pos) (bZ (isC C) x fo):=de_fld ho (fun C' h=>by rw [isC_of h];exact ⟨hc,hk⟩) hb
theorem ii_int (he:DE X e f) (h1:X.mg "int" = none) (h2:X.mg "isinstance" = none) (hs:starEach [e,.Name "int" p] X.env=(false,eval e X.env)::starEach [.Name "int" p] X.env:=by rfl) (hg:Gl X "int":=by rfl) (hg2:Gl X "isinstance":=by rfl) :
 DE X (.Call (.Name "isinstance" apos) [e,.Name "int" p] [] pos) (ax dU f):=f6 he (lA (v:=.ty "int") hg h1 boot_int rfl) (.inl ⟨_,rfl⟩) rfl (kk_int _) hg2 h2 hs
theorem pd (he:DE X e f) (h1:X.mg "bool" = none) (h2:X.mg "isinstance" = none) (hs:starEach [e,.Name "bool" p] X.env=(false,eval e X.env)::starEach [.Name "bool" p] X.env:=by rfl) (hg:Gl X "bool":=by rfl) (hg2:Gl X "isinstance":=by rfl) :
 DE X (.Call (.Name "isinstance" apos) [e,.Name "bool" p] [] pos) (ax is_bool f):=f6 he (lA (v:=.ty "bool") hg h1 boot_bool rfl) (.inl ⟨_,rfl⟩) rfl (kk_bool _) hg2 h2 hs
theorem jJ (he:DE X e f) (h1:X.mg "list" = none) (h2:X.mg "isinstance" = none) (hs:starEach [e,.Name "list" p] X.env=(false,eval e X.env)::starEach [.Name "list" p] X.env:=by rfl) (hg:Gl X "list":=by rfl) (hg2:Gl X "isinstance":=by rfl) :
 DE X (.Call (.Name "isinstance" apos) [e,.Name "list" p] [] pos) (ax cF f):=f6 he (lA (v:=.ty "list") hg h1 boot_list rfl) (.inl ⟨_,rfl⟩) rfl (kk_list _) hg2 h2 hs
theorem qu (he:DE X e f) (h1:X.mg "tuple" = none) (h2:X.mg "isinstance" = none) (hs:starEach [e,.Name "tuple" p] X.env=(false,eval e X.env)::starEach [.Name "tuple" p] X.env:=by rfl) (hg:Gl X "tuple":=by rfl) (hg2:Gl X "isinstance":=by rfl) :
 DE X (.Call (.Name "isinstance" apos) [e,.Name "tuple" p] [] pos) (ax fq f):=f6 he (lA (v:=.ty "tuple") hg h1 boot_tuple rfl) (.inl ⟨_,rfl⟩) rfl (kk_tuple _) hg2 h2 hs
theorem ii_c {ans:D->Option Bool} (he:DE X e f) (h1:Cd X.K X.mg C x) (hk:Ka X.K ans C) (h2:X.mg "isinstance" = none) (hs:starEach [e,.Name x p] X.env=(false,eval e X.env)::starEach [.Name x p] X.env:=by rfl) (hg:Gl X x:=by rfl) (hg2:Gl X "isinstance":=by rfl) (hd:(x==("__debug__" : Str))=false:=by decide) :
 DE X (.Call (.Name "isinstance" apos) [e,.Name x p] [] pos) (ax ans f):=f6 he (pe_glob (v:=.ref C) hg h1.g rfl hd) (.inr ⟨_,rfl⟩) rfl hk hg2 h2 hs
theorem bE (hm:X.mg "len" = none) (ha:DE X e f) (hg:Gl X "len":=by rfl) (he:starEach [e] X.env=(false,eval e X.env)::starEach [] X.env:=by exact bY rfl):DE X (.Call (.Name "len" p) [e] [] pos) (al aV (ab f af)):=jC c_len PySem.boot_len hm (d1 ha he) hg (he:=he)
theorem b_all (hm:X.mg "all" = none) (ha:DE X e f) (hc:X.calm=true:=by rfl) (hg:Gl X "all":=by rfl) (he:starEach [e] X.env=(false,eval e X.env)::starEach [] X.env:=by exact bY rfl):DE X (.Call (.Name "all" p) [e] [] pos) (al iN (ab f af)):=jC (c_all hc) boot_all hm (d1 ha he) hg (he:=he)
theorem c_eq (ha:DE X a fa) (hb:DE X b fb) (hr:bG j X.A):DE X (.Compare a [.Eq] [b] pos) (ad oEq fa fb):=de_cmp (op_oEq (hu64 hr)) ha hb (lU _)
theorem c_in (ha:DE X a fa) (hb:DE X b fb) (hr:bG j X.A) (hm:behindInMarks .In b=false:=by with_unfolding_all rfl):DE X (.Compare a [.In] [b] pos) (ad oIn fa fb):=de_cmp (op_oIn (hu64 hr)) ha hb hm
theorem t_eq (ha:DE X a fa) (hb:DE X b fb) (hr:bG j X.A):DT X (.Compare a [.Eq] [b] pos) (ai (ad oEq fa fb)):=lZ (op_oEq (hu64 hr)) ha hb (lU _)
theorem je (ha:DE X a fa) (hb:DE X b fb) (hr:bG j X.A):DT X (.Compare a [.NotEq] [b] pos) (ai (ad oNe fa fb)):=lZ (op_oNe (hu64 hr)) ha hb (lU _)
theorem t_in (ha:DE X a fa) (hb:DE X b fb) (hr:bG j X.A) (hm:behindInMarks .In b=false:=by with_unfolding_all rfl):DT X (.Compare a [.In] [b] pos) (ai (ad oIn fa fb)):=lZ (op_oIn (hu64 hr)) ha hb hm
theorem t_ni (ha:DE X a fa) (hb:DE X b fb) (hr:bG j X.A) (hm:behindInMarks .NotIn b=false:=by with_unfolding_all rfl):DT X (.Compare a [.NotIn] [b] pos) (ai (ad oNotIn fa fb)):=lZ (op_oNotIn (hu64 hr)) ha hb hm
theorem dc2 {op:CmpOp} {o:D->D->Option R} (ho:OpR X (compareOp op) (rD o)) (ha:DE X a fa) (hb:DE X b fb) (hm:behindInMarks op b=false:=by exact lU _):DE X (.Compare a [op] [b] pos) (ad o fa fb):=de_cmp ho ha hb hm
theorem tc2 {op:CmpOp} {o:D->D->Option R} (ho:OpR X (compareOp op) (rD o)) (ha:DE X a fa) (hb:DE X b fb) (hm:behindInMarks op b=false:=by exact lU _):DT X (.Compare a [op] [b] pos) (ai (ad o fa fb)):=lZ ho ha hb hm
theorem kM {tf tg:DSt->Option Bool} (ha:DT X a tf) (hb:DT X b tg):DT X (.BoolOp .And [a,b] pos) (cx tf tg):=(dw_and ha (dw_and1 hb)).dt
theorem ko {tf tg:DSt->Option Bool} (ha:DT X a tf) (hb:DT X b tg):DT X (.BoolOp .Or [a,b] pos) (bg tf tg):=(n4 ha (dw_or1 hb)).dt
theorem kN {tf tg th:DSt->Option Bool} (ha:DT X a tf) (hb:DT X b tg) (hc:DT X c th):DT X (.BoolOp .Or [a,b,c] pos) (bg tf (bg tg th)):=(n4 ha (n4 hb (dw_or1 hc))).dt
abbrev Inn (X:Cx) (N:List Str) (scope:Scope) (tg elt:Expr) (ifs:List Expr) (ks:List Nat) (g:GD) (c:DSt->Option Bool) (fe:FE):Prop:=N.Nodup->∀ cl C s H fp,DG (bv X N scope cl C s H fp) tg ks g/\DIfs (bv X N scope cl C s H fp) ifs c/\DE (bv X N scope cl C s H fp) elt fe
abbrev InN (X:Cx) (N:List Str) (scope:Scope) (tg elt:Expr) (ifs:List Expr) (ks:List Nat) (g:GD) (c:DSt->Option Bool) (fe:FN):Prop:=N.Nodup->∀ cl C s H fp,DG (bv X N scope cl C s H fp) tg ks g/\DIfs (bv X N scope cl C s H fp) ifs c/\DN (bv X N scope cl C s H fp) elt fe
section
variable {scope:Scope} {tg iter elt:Expr} {ifs:List Expr} {ks ix:List Nat} {fi:DSt->Option (List D)} {g:GD} {c:DSt->Option Bool} {fe:FE} {fn:FN} {spos py:Pos}
theorem dc (N:List Str) (hi:DI X tg iter fi) (hin:Inn X N scope tg elt ifs ks g c fe) (hc:X.calm=true:=by rfl) (S:me X.env.scope X.N N n ix scope=true:=by kernel_rfl) (nd:N.Nodup:=by decide +kernel) (hk:∀ j∈ks,j<n:=by decide)
 (hs:∀ x,foldedSetIterable iter X.env x=pure x:=by intro _;rfl):DE X (.ListComp elt [⟨tg,iter,ifs,0⟩] scope pos) (bI fi g c fe n ix):=de_comp hc (kf rfl rfl S) hk hi (hin nd) hs
theorem nc (N:List Str) (hi:DI X tg iter fi) (hin:InN X N scope tg elt ifs ks g c fn) (hc:X.calm=true:=by rfl) (S:me X.env.scope X.N N n ix scope=true:=by kernel_rfl) (nd:N.Nodup:=by decide +kernel) (hk:∀ j∈ks,j<n:=by decide)
 (hs:∀ x,foldedSetIterable iter X.env x=pure x:=by intro _;rfl):DN X (.ListComp elt [⟨tg,iter,ifs,0⟩] scope pos) (mo fi g c fn n ix):=dn_comp hc (kf rfl rfl S) hk hi (hin nd) hs
theorem sc (N:List Str) (hN:X.N.Nodup) (hi:DI X tg iter fi) (hin:Inn X N scope tg elt ifs ks g c fe) (hc:X.calm=true:=by rfl) (S:me X.env.scope X.N N n ix scope=true:=by kernel_rfl) (nd:N.Nodup:=by decide +kernel) (hk:∀ j∈ks,j<n:=by decide)
 (hiy:X.N[i]?=some y:=by rfl) (hy:Loc X.env.scope y:=by first | exact .inl rfl | exact .inr rfl)
 (hsw:swapsWith (.ListComp elt [⟨tg,iter,ifs,0⟩] scope pos) (some (.Name y py)) spos.line X.env=pure true:=by rfl) (hf:X.fn y=true\/X.env.scope.names.lookup y=some .local:=by first | exact .inl rfl | exact .inr rfl | assumption)
 (hs:∀ x,foldedSetIterable iter X.env x=pure x:=by intro _;rfl):DS X (.Assign [.Name y py] (.ListComp elt [⟨tg,iter,ifs,0⟩] scope pos) spos) (sset i (bI fi g c fe n ix)):=ds_comp hc (kf rfl rfl S) hk hi (hin nd) hN hiy hy hsw hf hs
theorem gn (hN:X.N.Nodup) (hi:X.N[i]?=some x:=by rfl) (hx:Loc X.env.scope x:=by first | exact .inl rfl | exact .inr rfl) (hf:X.fn x=true\/X.env.scope.names.lookup x=some .local:=by first | exact .inl rfl | exact .inr rfl | assumption):DG X (.Name x pos) [i] (aq i):=dg_name (pg_name hN hi hx hf)
theorem g2 {k:Nat} {js:List Nat} {g':GD} (h1:DG X a ks g) (h2:DG X b js g') (hc:X.calm=true:=by rfl) (e1:(assignEach [a,b] X.env).map (·.2)=assign a X.env::(assignEach [b] X.env).map (·.2):=by rfl) (e2:(assignEach [b] X.env).map (·.2)=assign b X.env::(assignEach [] X.env).map (·.2):=by rfl)
 (hn:(assignEach [a,b] X.env).length=2:=by rfl) (hst:(assignEach [a,b] X.env).findIdx? (·.1)=none:=by rfl):DG X (.Tuple [a,b] k pos) (ks++(js++[])) (iM 2 (bO g (bO g' i9))):=dg_tup hc (qi h1 (qi h2 dgs_nil e2) e1) hn hst
theorem sf (hi:DI X tg iter fi) (hg:DG X tg ks g) (hb:DSs X body F) (hc:X.calm=true:=by rfl) (hp:PassesOwn (model X.prog X.w) X.A X.env X.xe:=by exact PassesOwn.never) (hs:∀ x,foldedSetIterable iter X.env x=pure x:=by intro _;rfl):DS X (.For tg iter body [] pos) (bN fi g F):=ds_for hp hc hi hg hb hs
theorem sw {t:DSt->Option Bool} (ht:DT X a t) (hb:DSs X body F) (hp:PassesOwn (model X.prog X.w) X.A X.env X.xe:=by exact PassesOwn.never):DS X (.While a body [] pos) (cZ t F n):=ds_while n hp ht hb
theorem ir (hm:X.mg "range" = none) (ha:DE X a fa) (hg:Gl X "range":=by rfl) (hs:starEach [a] X.env=[(false,eval a X.env)]:=by exact bY rfl):DI X tg (.Call (.Name "range" p) [a] [] pos) (gM (ab fa af)):=di_range1 hg hm (d1 ha hs) hs
end
theorem sA (hN:X.N.Nodup) (he:DE X e f) (hi:X.N[i]?=some x:=by rfl) (hx:Loc X.env.scope x:=by first | exact .inl rfl | exact .inr rfl) (hs:swapsWith e (some (.Name x pos')) pos.line X.env=pure false:=by rfl)
 (hf:X.fn x=true\/X.env.scope.names.lookup x=some .local:=by first | exact .inl rfl | exact .inr rfl | assumption):DS X (.Assign [.Name x pos'] e pos) (sset i f):=ds_set hN hi hx he hs hf
theorem stB (hN:X.N.Nodup) (he:DE X e f) (hi:X.N[k]?=some x:=by rfl) (hx:Loc X.env.scope x:=by first | exact .inl rfl | exact .inr rfl) (hs:swapsWith e (some (.Name x pos')) pos.line X.env=pure false:=by rfl)
 (hf:X.fn x=true\/X.env.scope.names.lookup x=some .local:=by first | exact .inl rfl | exact .inr rfl | assumption):DS X (.Assign [.Name x pos'] e pos) (mq i k f):=ds_setB hN hi hx he hs hf
theorem stN (hN:X.N.Nodup) (he:DN X e g) (hi:X.N[i]?=some x:=by rfl) (hx:Loc X.env.scope x:=by first | exact .inl rfl | exact .inr rfl) (hs:swapsWith e (some (.Name x pos')) pos.line X.env=pure false:=by rfl)
 (hf:X.fn x=true\/X.env.scope.names.lookup x=some .local:=by first | exact .inl rfl | exact .inr rfl | assumption):DS X (.Assign [.Name x pos'] e pos) (jE i g):=ds_setN hN hi hx he hs hf
theorem stNB (hN:X.N.Nodup) (he:DN X e g) (hi:X.N[i]?=some x:=by rfl) (hx:Loc X.env.scope x:=by first | exact .inl rfl | exact .inr rfl) (hs:swapsWith e (some (.Name x pos')) pos.line X.env=pure false:=by rfl)
 (hf:X.fn x=true\/X.env.scope.names.lookup x=some .local:=by first | exact .inl rfl | exact .inr rfl | assumption):DS X (.Assign [.Name x pos'] e pos) (km k i g):=ds_setNB hN hi hx he hs hf
theorem sg {op:Operator} {g:Int->Int->Int} (hN:X.N.Nodup) (he:DE X e f) (ho:PIp X op (ipI g)) (hi:X.N[i]?=some x:=by rfl) (hx:Loc X.env.scope x:=by first | exact .inl rfl | exact .inr rfl)
 (hf:X.fn x=true\/X.env.scope.names.lookup x=some .local:=by first | exact .inl rfl | exact .inr rfl | assumption):DS X (.AugAssign (.Name x pos') op e pos) (k9 g i f):=ds_aug hN hi hx he ho hf
theorem i0 {t:DSt->Option Bool} (hc:DT X c t) (ha:DSs X body F):DS X (.If c body [] pos) (sif t F az):=ds_if hc ha dss_nil
theorem iB0 {t:DSt->Option Bool} (hc:DT X c t) (ha:DSs X body F):DS X (.If c body [] pos) (jF i t F az):=ds_ifB hc ha dss_nil
end
end Ew
end
section
namespace Ew
open PySem
noncomputable def elS (m:Nat):List Nat:=(List.range 8).filter fun i=>m.testBit i
noncomputable def dZ (led:Bool) (m:Nat):SetTable:={ mask:=if (elS m).length<=4 then 7 else 31,place:=(elS m).toArray,dummies:=#[],finger:=0,led:=led,moves:=if (elS m).length<=4 then 0 else 1,plain:=true }
noncomputable def f8 (m h:Nat):Nat:=m||| (1 <<< h)
noncomputable def posS (m h:Nat):Nat:=((elS m).filter (·<h)).length
noncomputable def tb1 (led:Bool) (m h:Nat):SetTable:={ dZ led m with place:=(elS (f8 m h)).toArray }
noncomputable def chkS (led:Bool) (m h:Nat):Bool:=
 decide ((dZ led m).freeSlot (Int.ofNat h)=some (h,false))&&decide ((dZ led m).put h=(tb1 led m h,posS m h))&&decide ((elS m).take (posS m h)++h::(elS m).drop (posS m h)=elS (f8 m h))&&
 (tb1 led m h).fits ((elS m).length+1)&&decide (f8 m h<256)&&decide (posS m h<=(elS m).length)&&
 (if (tb1 led m h).tooFull=true then decide ((tb1 led m h).relaid ((elS (f8 m h)).map Int.ofNat).toArray (SetTable.grown ((elS m).length+1))=some (dZ led (f8 m h),(List.range ((elS m).length+1)).toArray))&&coversAll (List.range ((elS m).length+1)).toArray ((elS m).length+1)&&(dZ led (f8 m h)).fits ((elS m).length+1)
  else decide (tb1 led m h=dZ led (f8 m h)))
noncomputable def kO (m i:Nat):Nat:=if i=0 then 0 else (elS m).getD (i-1) 0+1
noncomputable def chkN (led:Bool) (m:Nat):Bool:=(List.range ((elS m).length+1)).all (fun i=>decide (SetTable.below (elS m).toArray (kO m i)=i))&&(dZ led m).fits (elS m).length&&decide ((elS m).length<=8)
noncomputable def chkQ (q:Nat):Bool:=(List.range' (q*32) 32).all fun m=>(List.range 8).all fun h=>m.testBit h||(chkS true m h&&chkS false m h)
set_option maxHeartbeats 0 in
theorem chk0:chkQ 0=true:=by decide +kernel
set_option maxHeartbeats 0 in
theorem chk1:chkQ 1=true:=by decide +kernel
set_option maxHeartbeats 0 in
theorem chk2:chkQ 2=true:=by decide +kernel
set_option maxHeartbeats 0 in
theorem chk3:chkQ 3=true:=by decide +kernel
set_option maxHeartbeats 0 in
theorem chk4:chkQ 4=true:=by decide +kernel
set_option maxHeartbeats 0 in
theorem chk5:chkQ 5=true:=by decide +kernel
set_option maxHeartbeats 0 in
theorem chk6:chkQ 6=true:=by decide +kernel
set_option maxHeartbeats 0 in
theorem chk7:chkQ 7=true:=by decide +kernel
set_option maxHeartbeats 0 in
theorem chkS_all:((List.range 256).all fun m=>(List.range 8).all fun h=>m.testBit h||(chkS true m h&&chkS false m h))=true:=by
 rw [show List.range 256=(List.range 8).flatMap fun q=>List.range' (q*32) 32 by decide +kernel,List.all_flatMap,List.all_eq_true]
 intro q h;rw [List.mem_range] at h
 match q,h with
 | 0,_=>exact chk0
 | 1,_=>exact chk1
 | 2,_=>exact chk2
 | 3,_=>exact chk3
 | 4,_=>exact chk4
 | 5,_=>exact chk5
 | 6,_=>exact chk6
 | 7,_=>exact chk7
set_option maxHeartbeats 0 in
theorem chkN_all:((List.range 256).all fun m=>chkN true m&&chkN false m)=true:=by decide +kernel
theorem chkS_of {led:Bool} {m h:Nat} (hm:m<256) (hh:h<8) (n:m.testBit h=false):chkS led m h=true:=by
 have a:=List.all_eq_true.mp (List.all_eq_true.mp chkS_all m (List.mem_range.mpr hm)) h (List.mem_range.mpr hh);rw [n] at a;simp only [Bool.false_or,um] at a;cases led
 ·exact a.2
 ·exact a.1
theorem iI {led:Bool} {m:Nat} (hm:m<256):chkN led m=true:=by
 have a:=List.all_eq_true.mp chkN_all m (List.mem_range.mpr hm);simp only [um] at a;cases led
 ·exact a.2
 ·exact a.1
theorem pf {m i:Nat}:i∈elS m↔i<8/\m.testBit i=true:=by unfold elS;simp
abbrev gW (es:Array (Int×Value)) (ep:Nat) (t:SetTable):Obj:={ cls:=.type "set",dict:=none,data:=.set es ep t,slots:=#[] }
structure SSo (es:Array (Int×Value)) (m:Nat):Prop where
 hash:es.toList.map (·.1)=(elS m).map Int.ofNat
 val:∀ e∈es.toList,∃ t,e.2=.int e.1 t
noncomputable def SS (h:Heap) (a:Addr) (led:Bool) (m:Nat):Prop:=∃ es ep,h.get? a=some (gW es ep (dZ led m))/\SSo es m
theorem SSo.size {es:Array (Int×Value)} {m:Nat} (h:SSo es m):es.size=(elS m).length:=by
 have:=congrArg List.length h.hash;simpa using this
theorem mw {α:Type} (xs:Array α) (p:Nat) (x:α) (hp:p<=xs.size):(SetTable.insertAt xs p x).toList=xs.toList.take p++x::xs.toList.drop p:=by
 unfold SetTable.insertAt;simp [Array.toList_extract,List.extract];exact List.take_of_length_le (by simp)
section
variable {prog:Program} {w:World} {A:Around} {E:Value->Shared->Prop} {s:Shared} {a:Addr} {led:Bool} {m:Nat}
theorem hash8 {h:Nat} (hh:h<8):(intKind prog w).hash (Int.ofNat h)=Int.ofNat h:=by
 match h,hh with
 | 0,_=>rfl
 | 1,_=>rfl
 | 2,_=>rfl
 | 3,_=>rfl
 | 4,_=>rfl
 | 5,_=>rfl
 | 6,_=>rfl
 | 7,_=>rfl
theorem SSo.elems {es:Array (Int×Value)} (h:SSo es m):ElemsOf (intKind prog w) es.toList:=by
 intro e he;obtain ⟨t,ht⟩:=h.val e he;have hm:e.1∈(elS m).map Int.ofNat:=by rw [<-h.hash];exact List.mem_map.mpr ⟨e,he,rfl⟩
 obtain ⟨i,hi,e1⟩:=List.mem_map.mp hm;have h8:=(pf.mp hi).1;refine ⟨⟨e.1,?_,?_⟩,by rw [ht];rfl⟩
 ·rw [ht];exact intKind_is _ _ _ _
 ·rw [<-e1,hash8 h8]
theorem SSo.mem {es:Array (Int×Value)} (S:SSo es m) {h:Nat} (hh:h<8):(∃ e∈es.toList,(intKind prog w).is (Int.ofNat h) e.2=true)↔m.testBit h=true:=by
 constructor
 ·rintro ⟨e,he,hi⟩;obtain ⟨t,ht⟩:=S.val e he;have e1:Int.ofNat h=e.1:=(intKind prog w).inj e.2 _ _ hi (by rw [ht];exact intKind_is _ _ _ _);have hm:e.1∈(elS m).map Int.ofNat:=by rw [<-S.hash];exact List.mem_map.mpr ⟨e,he,rfl⟩
  obtain ⟨i,hi',e2⟩:=List.mem_map.mp hm;have:i=h:=Int.ofNat.inj (e2.trans e1.symm);rw [<-this];exact (pf.mp hi').2
 ·intro hb;have hm:Int.ofNat h∈es.toList.map (·.1):=by rw [S.hash];exact List.mem_map.mpr ⟨h,pf.mpr ⟨hh,hb⟩,rfl⟩
  obtain ⟨e,he,e1⟩:=List.mem_map.mp hm;obtain ⟨t,ht⟩:=S.val e he;exact ⟨e,he,by rw [ht,e1];exact intKind_is _ _ _ _⟩
theorem SSo.put {es:Array (Int×Value)} (S:SSo es m) {h:Nat} {t:Tok} (c3:(elS m).take (posS m h)++h::(elS m).drop (posS m h)=elS (f8 m h)) (hp:posS m h<=(elS m).length) :
  SSo (SetTable.insertAt es (posS m h) (Int.ofNat h,.int (Int.ofNat h) t)) (f8 m h):=by
 have hs:=S.size;refine ⟨?_,?_⟩
 ·rw [mw _ _ _ (by omega),List.map_append,List.map_cons,List.map_take,List.map_drop,S.hash,<-c3,List.map_append,List.map_cons,List.map_take,List.map_drop]
 ·intro e he;rw [mw _ _ _ (by omega)] at he;rcases List.mem_append.mp he with q | q
  ·exact S.val e (List.mem_of_mem_take q)
  ·rcases List.mem_cons.mp q with q | q
   ·exact ⟨t,by rw [q]⟩
   ·exact S.val e (List.mem_of_mem_drop q)
theorem relay_id {es:Array (Int×Value)} {n:Nat} (hn:es.size=n):(List.range n).toArray.filterMap (es[·]?)=es:=by
 apply Array.ext';rw [Array.toList_filterMap];show (List.range n).filterMap (fun i=>es[i]?)=es.toList;rw [<-hn];have:∀ l:List (Int×Value),(List.range l.length).filterMap (fun i=>l[i]?)=l:=by
  intro l
  induction l with
  | nil=>rfl
  | cons x l ih=>
   rw [List.length_cons,List.range_succ_eq_map,List.filterMap_cons];simp only [uj,List.filterMap_map,Function.comp_def,Nat.succ_eq_add_one,ug];rw [ih]
 have h2:=this es.toList;simpa using h2
theorem set_add {h:Nat} {t:Tok} {Q:Bool->Shared->Prop} (hm:m<256) (hh:h<8) (hS:SS s.heap a led m)
  (hQ:∀ (b:Bool) h',Heap.SameBut a s.heap h'->SS h' a led (if m.testBit h=true then m else f8 m h)->Q b { s with heap:=h' }) :
  wpAny (model prog w) A (setAddHashed a (.int (Int.ofNat h) t) (Int.ofNat h)) Q E s:=by
 obtain ⟨es,ep,ho,S⟩:=hS;have cn:=iI (led:=led) hm;unfold chkN at cn;simp only [um,decide_eq_true_eq] at cn;have hf:(dZ led m).fits es.size=true:=by rw [S.size];exact cn.1.2
 have hsz:es.size<=8:=by rw [S.size];exact cn.2
 have hb:es.size<scanBound:=by unfold scanBound;omega
 have hel:=S.elems (prog:=prog) (w:=w);have hk:(intKind prog w).is (Int.ofNat h) (.int (Int.ofNat h) t)=true:=intKind_is _ _ _ _;unfold setAddHashed setAddHashedIn;refine wpAny_holding (ub (wpAny_setState_of ho rfl hf ?_));dsimp only;rw [byScan_of rfl hb hel];simp only [↓reduceIte];unfold setAddByScan;refine ub (ub (wpAny_rule (ub ?_)));have sc:=fun Q0 hq=>wpAny_setScan_of (prog:=prog) (w:=w) (knd:=intKind prog w) (A:=A) (E:=E) (s:=s) (adding:=true) (Q:=Q0) hk ho rfl hf hel hq;rw [hash8 hh] at sc;refine sc _ ?_;have hmem:=S.mem (prog:=prog) (w:=w) hh;cases hr:List.findIdx? (fun e=>(intKind prog w).is (Int.ofNat h) e.2) es.toList with
 | some j=>
  obtain ⟨hj,hpj,_⟩:=List.findIdx?_eq_some_iff_getElem.mp hr;have hb:m.testBit h=true:=hmem.mp ⟨_,List.getElem_mem hj,hpj⟩;refine uc (uc ?_);have:=hQ false s.heap (Heap.SameBut.refl a s.heap) (by rw [if_pos hb];exact ⟨es,ep,ho,S⟩);exact this
 | none=>
  have hb:m.testBit h=false:=by
   cases hb:m.testBit h with
   | false=>rfl
   | true=>
    obtain ⟨e,he,hp⟩:=hmem.mpr hb;have:=List.findIdx?_eq_none_iff.mp hr e he;rw [hp] at this;cases this
  have cs:=chkS_of (led:=led) hm hh hb;unfold chkS at cs;simp only [um,decide_eq_true_eq] at cs;obtain ⟨⟨⟨⟨⟨⟨c1,c2⟩,c3⟩,c5⟩,c6⟩,c7⟩,c4⟩:=cs;have S1:=S.put (t:=t) c3 c7;have hsz1:(SetTable.insertAt es (posS m h) (Int.ofNat h,Value.int (Int.ofNat h) t)).size=(elS m).length+1:=by
   rw [<-Array.length_toList,mw _ _ _ (by rw [S.size];exact c7)];simp [S.size];omega
  have hlay:layNew (dZ led m) es (Int.ofNat h) (.int (Int.ofNat h) t)=(SetTable.insertAt es (posS m h) (Int.ofNat h,.int (Int.ofNat h) t),tb1 led m h,false,false):=by
   unfold layNew;rw [c1];simp only [c2];unfold SetTable.orStandIn;rw [hsz1,c5];rfl
  rw [if_neg (by rw [hb];exact Bool.false_ne_true)] at hQ;generalize hE1:SetTable.insertAt es (posS m h) (Int.ofNat h,Value.int (Int.ofNat h) t)=es1 at S1 hsz1 hlay;dsimp only;rw [hlay];dsimp only;refine ub (uc ?_);have hpl:(tb1 led m h).plain=true:=rfl;rw [hpl];simp only [↓reduceIte];rw [hashByValue_scannable 8 (x:=.int (Int.ofNat h) t) rfl];refine ub (uc ?_);simp only [plainKind,↓reduceIte];refine ub (wpAny_storeSet_of ho rfl ?_ (by rw [sizeLine_eq];omega));have g1:(s.heap.update a (Obj.putSet es1 (tb1 led m h))).get? a=some (gW es1 (ep+1) (tb1 led m h)):=by
   have:=Heap.get?_update_self (Obj.putSet es1 (tb1 led m h)) ho (by rw [putSet_of _ _ rfl];rfl);rw [putSet_of _ _ rfl] at this;exact this
  by_cases hfull:(tb1 led m h).tooFull=true
  ·rw [if_pos hfull] at c4;simp only [um,decide_eq_true_eq] at c4;obtain ⟨⟨d1,d2⟩,d3⟩:=c4;have hre:relayAll (tb1 led m h) es1 (SetTable.grown es1.size)=(es1,dZ led (f8 m h),false):=by
    unfold relayAll;have e1:es1.map (·.1)=((elS (f8 m h)).map Int.ofNat).toArray:=by
     apply Array.ext';rw [Array.toList_map,S1.hash]
    rw [e1,hsz1,d1];simp only;rw [relay_id hsz1,hsz1,d2,d3];rfl
   rw [hfull,hre];simp only [Bool.not_false,Bool.and_self,↓reduceIte];refine ub (uc ?_);refine ub (wpAny_storeSet_of g1 rfl ?_ (by rw [sizeLine_eq];omega));have g2:((s.heap.update a (Obj.putSet es1 (tb1 led m h))).update a (Obj.putSet es1 (dZ led (f8 m h)))).get? a=some (gW es1 (ep+1+1) (dZ led (f8 m h))):=by
    have:=Heap.get?_update_self (Obj.putSet es1 (dZ led (f8 m h))) g1 (by rw [putSet_of _ _ rfl];rfl);rw [putSet_of _ _ rfl] at this;exact this
   exact uc (uc (hQ _ _ ((Heap.SameBut.update s.heap a _).trans (Heap.SameBut.update _ a _)) ⟨es1,_,g2,S1⟩))
  ·rw [if_neg hfull] at c4;have c4':tb1 led m h=dZ led (f8 m h):=by simpa using c4
   have hfl:(tb1 led m h).tooFull=false:=by simpa using hfull
   rw [hfl];simp only [Bool.not_false,Bool.and_false,Bool.false_eq_true,↓reduceIte];rw [c4'] at g1;refine uc (uc (hQ _ _ (Heap.SameBut.update s.heap a _) ⟨es1,ep+1,?_,S1⟩));rw [c4'];exact g1
end
noncomputable def iO (m n:Nat):Nat:=if m.testBit n=true then m else f8 m n
theorem addS_lt {m h:Nat} (hm:m<256) (hh:h<8):f8 m h<256:=by
 unfold f8;exact Nat.or_lt_two_pow (n:=8) hm (by
  rw [Nat.one_shiftLeft];exact Nat.pow_lt_pow_right (by omega) hh)
theorem bitS_lt {m h:Nat} (hm:m<256) (hh:h<8):iO m h<256:=by
 unfold iO;split
 ·exact hm
 ·exact addS_lt hm hh
theorem fold_lt:∀ {ns:List Nat} {m:Nat},m<256->(∀ n∈ns,n<8)->ns.foldl iO m<256
 | [],m,hm,_=>hm
 | n::ns,m,hm,h=>fold_lt (ns:=ns) (bitS_lt hm (h n List.mem_cons_self)) fun k hk=>h k (uf _ hk)
theorem SS.at {h h':Heap} {a:Addr} {led:Bool} {m:Nat} (x:SS h a led m) (e:∀ o,h.get? a=some o->h'.get? a=some o):SS h' a led m:=let ⟨es,ep,ho,S⟩:=x;⟨es,ep,e _ ho,S⟩
section
variable {prog:Program} {w:World} {A:Around} {R:Result->Shared->Prop} {I:Addr} {fp wr:List Addr} {G:Array GenState->Array GenState->Prop} {n:Nat} {P:Nat->Value->Prop} {St:Nat->Shared->Prop} {led:Bool}
theorem upd_loop (W:WalksS prog w A.in1 I fp wr G n P St) (S:Addr) (hSf:S∉fp) (val mm:Nat->Nat) (h8:∀ i,i<n->val i<8) (hval:∀ i v,i<n->P i v->∃ t,v=.int (Int.ofNat (val i)) t)
  (hmm:∀ i,i<n->mm (i+1)=iO (mm i) (val i)) (vk:∀ i,i<=n->mm i<256) :
  ∀ (k i:Nat) (s:Shared),n-i=k->i<=n->St i s->SS s.heap S led (mm i)->(∀ s',Moved (S::wr) G s s'->SS s'.heap S led (mm n)->R (.ok (.ret .none)) s')->
   codeAny (model prog w) A (.builtin "set.update.loop" ⟨[.ref S,.ref I],[]⟩) R s:=by
 have hSw:S∉wr:=fun h=>hSf (W.sub _ h);have sub1:∀ b∈wr,b∈S::wr:=fun b hb=>uf _ hb;intro k
 induction k with
 | zero=>
  intro i s hk hi st hS hR;have e:i=n:=by omega
  subst e;refine codeAny_builtin PyProof.Rows.F.entry_set_update_loop ?_;rw [Around.under_plainId PyProof.Rows.F.plain_set_update_loop _];show wpAny _ A.in1 (pyNext (.ref I) >>= _) _ _ s;refine ub (W.done s _ _ st fun s' mv=>?_);exact uc (hR s' (mv.mono sub1) (hS.at fun o e=>mv.heap S _ hSw e))
 | succ k ih=>
  intro i s hk hi st hS hR;have lt:i<n:=by omega
  refine codeAny_builtin PyProof.Rows.F.entry_set_update_loop ?_;rw [Around.under_plainId PyProof.Rows.F.plain_set_update_loop _];show wpAny _ A.in1 (pyNext (.ref I) >>= _) _ _ s;refine ub (W.item i s _ _ lt st fun v s' hP st' mv=>?_);obtain ⟨t,rfl⟩:=hval i v lt hP;have hS':SS s'.heap S led (mm i):=hS.at fun o e=>mv.heap S _ hSw e;show wpAny _ A.in1 (holding [Value.int (Int.ofNat (val i)) t] (setAdd S (.int (Int.ofNat (val i)) t)) >>= _) _ _ s';refine ub (wpAny_holding ?_);unfold setAdd;refine wpAny_holding (ub ((intKind prog w).pyHash (k:=Int.ofNat (val i)) (intKind_is _ _ _ _) ?_));rw [hash8 (h8 i lt)];refine set_add (s:={ s' with toks:=s'.toks+1 }) (vk i hi) (h8 i lt) hS' fun b h' hsb hS2=>?_;have hS3:SS h' S led (mm (i+1)):=by rw [hmm i lt];exact hS2
  refine uc ⟨plainId_quiet PyProof.Rows.F.plain_set_update_loop _,ih (i+1) _ (by omega) lt (W.frame _ s' _ _ st' (Nat.le_succ _) fun b hb o e=>?_) hS3 fun s'' mv2 hS4=>?_⟩
  ·rw [hsb.2 b (fun h:b=S=>hSf (by rw [<-h];exact hb))];exact e
  ·refine hR s'' (Moved.trans W.gtrans ((mv.mono sub1).then_heap (Nat.le_succ _) fun b o hb e=>?_) mv2) hS4;rw [hsb.2 b (fun h:b=S=>hb (by rw [h];exact List.mem_cons_self))];exact e
end
section
variable {prog:Program} {w:World} {A:Around} {E:Value->Shared->Prop} {s:Shared}
abbrev dg (w:World):Bool:=!w.params.followText "set-order"
theorem set_new8 (a:Value) {Q:Value->Shared->Prop} (h:Q (.ref s.heap.objs.size) { s with heap:=s.heap.push (gW #[] 0 (.fresh 0 0 (dg w))) }) :
  codeAny (model prog w) A (.call (.builtin "set.__new__") ⟨[.type "set",a],[]⟩) (wants Q E) s:=by
 refine codeAny_of_tree ?_;show wpAny _ A.in1 (do checkBuiltinCall "set.__new__" ⟨[.type "set",a],[]⟩;again (.builtin "set.__new__" ⟨[.type "set",a],[]⟩)) _ _ s;refine ub (wpAny_of_eq (PySem.F.newCall_set_1 a) (uc ⟨plainId_quiet plain_set_new _,codeAny_builtin PySem.F.entry_set_new ?_⟩));rw [Around.under_plainId plain_set_new _];unfold Builtin.«set.__new__» Builtin.Frozenset.newClass;have hsub:=sub_set_self;obtain ⟨hp,g,d,tk,os⟩:=s;dsimp only
 wp_walk
 refine wpAny_askSetting (uc ?_);dsimp only;simp only [newObj];refine ub (wpAny_alloc (uc ?_));exact uc h
theorem SS_fresh {h:Heap} {a:Addr} {led:Bool} (e:h.get? a=some (gW #[] 0 (.fresh 0 0 led))):SS h a led 0:=by
 have e1:SetTable.fresh 0 0 led=dZ led 0:=by cases led <;> decide +kernel
 rw [e1] at e;exact ⟨#[],0,e,⟨by simp;decide +kernel,fun e he=>by simp at he⟩⟩
end
section
variable {prog:Program} {w:World} {A:Around} {E:Value->Shared->Prop} {s:Shared}
set_option maxHeartbeats 3200000 in
theorem call_set8 {l:Addr} {items:Array Value} {ns:List Nat} {Q:Value->Shared->Prop} (hh:A.handled=none) (hl:s.heap.IsList l items) (hi:IntsAre items.toList (ns.map Int.ofNat)) (h8:∀ n∈ns,n<8)
  (h:∀ (h':Heap) (tk:Nat),SS h' s.heap.objs.size (dg w) (ns.foldl iO 0)->(∀ b o,b<s.heap.objs.size->s.heap.get? b=some o->h'.get? b=some o)->Q (.ref s.heap.objs.size) { s with heap:=h',toks:=tk }) :
  wpAny (model prog w) A (call (.type "set") [.ref l]) Q E s:=by
 obtain ⟨c,tl,hmro⟩:=PySem.F.called_set.mro;have hmade:=PySem.F.called_set.made;have hsub:=PySem.F.called_set.sub;refine wpAny_call (codeAny_of_tree ?_);show wpAny _ _ (callAny (.type "set") _) _ _ _;refine uc ⟨Code.quiet_builtin _ (by decide +kernel),codeAny_builtin PySem.F.entry_type_call ?_⟩;rw [Around.under_plain (weight_type_call_type "set" [.ref l] []) rfl];have h1:=PySem.F.called_set.notType;have h2:=PySem.F.called_set.canCreate;have hct:=PySem.F.typeCall_set_1 (.ref l)
 repeat (any_goals (first | assumption | wp_step))
 refine codeAny_mono (set_new8 (.ref l) (E:=E) (Q:=fun obj s₁=>obj=.ref s.heap.objs.size/\s₁={ s with heap:=s.heap.push (gW #[] 0 (.fresh 0 0 (dg w))) }) ⟨rfl,rfl⟩) fun r s₁ hr=>?_;cases r with
 | error e=>exact hr
 | ok fl=>
  cases fl with
  | ret obj=>
   obtain ⟨rfl,rfl⟩:=hr;generalize hO:gW #[] 0 (.fresh 0 0 (dg w))=ob;have hS:(s.heap.push ob).get? s.heap.objs.size=some ob:=Heap.get?_push_size _ (by rw [<-hO];rfl);have hT:Shared.TypeIs { s with heap:=s.heap.push ob } (.ref s.heap.objs.size) "set":=⟨_,hS,by rw [<-hO]⟩;have hli:=PySem.F.called_set.init.lookup;have hbi:=PySem.F.called_set.init.bind (.ref s.heap.objs.size)
   repeat (any_goals (first | assumption | wp_step))
   refine codeAny_mono (codeAny_call_builtin (R:=wants (fun r s₂=>r=.none/\∃ h' tk,s₂={ s with heap:=h',toks:=tk }/\SS h' s.heap.objs.size (dg w) (ns.foldl iO 0)/\
     (∀ b o,b<s.heap.objs.size->s.heap.get? b=some o->h'.get? b=some o)) E) PySem.F.called_set.init.plain PySem.F.entry_set_init (check_set_init_1 hT ?_)) fun r₂ s₂ hr₂=>?_
   ·obtain ⟨ol,hol,hcl,nl,hdl⟩:=hl;obtain ⟨ocls,odict,odata,oslots⟩:=ol;simp only at hcl hdl;subst hcl;subst hdl;have hol':(s.heap.push ob).get? l=some { cls:=.type "list",dict:=odict,data:=.seq items nl,slots:=oslots }:=Heap.get?_push_of_some _ hol;have hsls:=PySem.F.sub_list_set;have hslf:=PySem.F.sub_list_frozenset;have vj:(Value.type "list"==Value.type "dict")=false:=by decide
    have hl1:(s.heap.push ob).IsList l items:=⟨_,hol',rfl,nl,rfl⟩;have hSd:=hS;rw [<-hO] at hSd;rw [hO] at hSd;unfold Builtin.«set.__init__» noKeywords Builtin.Frozenset.updateFrom;subst hO;generalize hPI:pyIter=PI
    wp_walk
    subst hPI;refine wpAny_pyIter_list hl1 ?_;refine ub (wpAny_runValue ?_);have hlS:l<s.heap.objs.size:=Heap.lt_size hol;have hh3:A.in1.in1.in1.handled=none:=by simp [hh]
    have hneI:l≠(s.heap.push (gW #[] 0 (.fresh 0 0 (dg w)))).objs.size:=by
     rw [Heap.size_push];exact Nat.ne_of_lt (Nat.lt_succ_of_lt hlS)
    have hSf:s.heap.objs.size∉[(s.heap.push (gW #[] 0 (.fresh 0 0 (dg w)))).objs.size,l]:=by
     rw [Heap.size_push];simp only [List.mem_cons,List.mem_singleton,List.not_mem_nil,or_false,not_or];exact ⟨Nat.ne_of_lt (Nat.lt_succ_self _),Nat.ne_of_gt hlS⟩
    have hlen:items.size=ns.length:=by have:=hi.length;simpa using this
    refine upd_loop (led:=dg w) ((Walks.list hh3 _ l hneI items).toS) s.heap.objs.size hSf (fun i=>ns.getD i 0) (fun i=>(ns.take i).foldl iO 0) ?v8 ?vv ?vm ?vl (items.size-0) 0 _ (by omega) (Nat.zero_le _)
     ⟨⟨_,Heap.get?_push_size _ rfl,rfl,rfl⟩,(hl1.push _)⟩ ?hS0 ?hR
    case v8=>
     intro i hi';have:i<ns.length:=by omega
     simp only [List.getD,List.getElem?_eq_getElem this,Option.getD_some];exact h8 _ (List.getElem_mem this)
    case vv=>
     intro i v hi' hv;have vk:i<ns.length:=by omega
     obtain ⟨t,e⟩:=PyProof.Rows.IntsAre.int_at hi i v (by rw [Array.getElem?_toList];exact hv);refine ⟨t,?_⟩;rw [e];simp [List.getD,vk]
    case vm=>
     intro i hi';have vk:i<ns.length:=by omega
     show (ns.take (i+1)).foldl iO 0=_;rw [List.take_succ,List.getElem?_eq_getElem vk,List.foldl_append];simp [List.getD,vk]
    case vl=>
     intro i _;exact fold_lt (by omega) fun k hk=>h8 k (List.mem_of_mem_take hk)
    case hS0=>
     have hget:((s.heap.push (gW #[] 0 (.fresh 0 0 (dg w)))).push { cls:=.type "list_iterator",data:=.fields #[.ref l,.int 0 0] }).get? s.heap.objs.size=some (gW #[] 0 (.fresh 0 0 (dg w))):=Heap.get?_push_of_some _ hS;exact SS_fresh hget
    case hR=>
     intro s' hm hS';rw [hlen,List.take_of_length_le (Nat.le_refl _)] at hS';obtain ⟨h',g',d',tk',os'⟩:=s';have eg:g'=s.gens:=hm.gens;have ed:d'=s.drawn:=hm.drawn;have eo:os'=s.os:=hm.os;subst eg;subst ed;subst eo;show wpAny _ _ _ _ _ _;refine uc ?_;show wpAny _ _ (ret Value.none) _ _ _;refine uc ⟨rfl,h',tk',rfl,hS',fun b o hb e=>?_⟩;have hb1:b≠s.heap.objs.size:=Nat.ne_of_lt hb;have hb2:b≠(s.heap.push (gW #[] 0 (.fresh 0 0 (dg w)))).objs.size:=by
      rw [Heap.size_push];exact Nat.ne_of_lt (Nat.lt_succ_of_lt hb)
     exact hm.heap b o (by simp only [List.mem_cons,List.mem_singleton,List.not_mem_nil,or_false,not_or];exact ⟨hb1,hb2⟩) (Heap.get?_push_of_some _ (Heap.get?_push_of_some _ e))
   ·cases r₂ with
    | error e=>exact hr₂
    | ok fl₂=>
     cases fl₂ with
     | ret r=>
      obtain ⟨rfl,h',tk,rfl,hS',hk'⟩:=hr₂
      repeat (any_goals (first | assumption | wp_step))
      exact h _ _ hS' hk'
     | _=>exact hr₂.elim
  | _=>exact hr.elim
end
theorem own_sit:Manifest.owners.lookup (String.ofList "set_iterator".toList.reverse.reverse)=some Manifest.sig_set_iterator:=by kernel_rfl
theorem f9:Slot "set_iterator" "__next__" "set_iterator.__next__":=.of (owner:="set_iterator") (n:="__next__") (by rw [typeLookup_type,builtinLookup_eq_fast];kernel_rfl) (by decide +kernel) (by decide +kernel) (by decide +kernel) (by first | exact .inl (by decide +kernel) | exact .inr (by decide +kernel)) (by rw [isSubtype_type];kernel_rfl)
theorem oh:entryFor table "set_iterator.__next__" = some Builtin.«set_iterator.__next__»:=entryFor_of_tree (by kernel_rfl)
theorem qw (a:Value):argsOk "set_iterator.__next__" ⟨[a],[]⟩:=by
 unfold argsOk;rw [signature?_of (id:="set_iterator.__next__") (n:="__next__".toList.reverse) (o:="set_iterator".toList.reverse) (by kernel_rfl) own_sit];kernel_rfl
theorem ph:entryFor table "set.__iter__" = some Builtin.«frozenset.__iter__»:=
 entryFor_alias (id':="frozenset.__iter__") (by kernel_rfl) (by first | rfl | decide +kernel | (unfold String.splitOn;simp +decide [String.splitOnAux])) (by decide +kernel) (by kernel_rfl)
theorem and_ff (b:Bool):decide ((b&&false)=true)=false:=by cases b <;> rfl
abbrev sitO (first:Value) (i:Nat) (a:Value) (n ep:Nat):Obj:={ cls:=.type "set_iterator",data:=.fields #[first,rawInt (i:Nat),a,rawInt (n:Nat),rawInt (ep:Nat)] }
section
variable {prog:Program} {w:World} {A:Around} {E:Value->Shared->Prop} {s:Shared} {a:Addr} {led:Bool} {m:Nat}
theorem fitsN (hm:m<256):(dZ led m).fits (elS m).length=true:=by
 have cn:=iI (led:=led) hm;unfold chkN at cn;simp only [um] at cn;exact cn.1.2
theorem iter_set {Q:Value->Shared->Prop} {es:Array (Int×Value)} {ep:Nat} (hm:m<256) (ho:s.heap.get? a=some (gW es ep (dZ led m))) (S:SSo es m)
  (h:Q (.ref s.heap.objs.size) { s with heap:=s.heap.push (sitO (rawInt 0) 0 (.ref a) es.size ep) }):wpAny (model prog w) A (pyIter (.ref a)) Q E s:=by
 have hT:s.TypeIs (.ref a) "set":=⟨_,ho,rfl⟩;have hf:(dZ led m).fits es.size=true:=by rw [S.size];exact fitsN hm
 refine wpAny_pyIter_slot hT slot_set_iter (wpAny_call_entry slot_set_iter hT ph ?_ (PySem.F.args_set_iter_1 _));unfold Builtin.«frozenset.__iter__»;refine ub (m:=Builtin.Frozenset.slot0 "__iter__" ⟨[.ref a],[]⟩) (wpAny_of_eq (a:=a) rfl ?_);refine ub (m:=Builtin.Frozenset.sizeOf a) ?_;unfold Builtin.Frozenset.sizeOf setEntries;refine ub (ub (wpAny_setState_of ho rfl hf (uc (uc ?_))));refine ub ?_;unfold setDrawn setsByText;refine ub (wpAny_setState_of ho rfl hf ?_);refine ub (m:=ask >>= fun x=>pure (x.params.followText "set-order")) (ub (wpAny_askSetting (uc ?_)));refine uc ?_;refine wpAny_ite_false (and_ff _) ?_;refine ub (uc ?_);unfold setEpoch;refine ub (ub (wpAny_setState_of ho rfl hf (uc ?_)));refine ub (wpAny_newObj_type (uc ⟨_,rfl, "set_iterator",_,⟨_,Heap.get?_push_size _ rfl,rfl⟩,f9.lookup,h⟩))
theorem go_perm {α:Type} (next:Nat->Nat):∀ (f k:Nat) (left:List α) (out:Array α),f=left.length->(pickOrder.go next f k left out).toList.Perm (out.toList++left)
 | 0,k,left,out,h=>by
  have:left=[]:=List.length_eq_zero_iff.mp h.symm;subst this;simp [pickOrder.go]
 | f+1,k,left,out,h=>by
  have hp:next k % left.length<left.length:=Nat.mod_lt _ (by omega)
  unfold pickOrder.go;rw [List.getElem?_eq_getElem hp];simp only;refine (go_perm next f (k+1) _ _ (by rw [List.length_eraseIdx_of_lt hp];omega)).trans ?_;rw [Array.toList_push,List.append_assoc];refine List.Perm.append_left _ ?_;have e1:=List.take_append_drop (next k % left.length) left;rw [List.drop_eq_getElem_cons hp] at e1;rw [List.eraseIdx_eq_take_drop_succ];refine List.Perm.trans (List.perm_middle (l₁:=left.take (next k % left.length)) (l₂:=left.drop (next k % left.length+1)) (a:=left[next k % left.length])).symm ?_;rw [e1]
theorem pick_perm {α:Type} (next:Nat->Nat) (xs:Array α):(pickOrder next xs).toList.Perm xs.toList:=by
 unfold pickOrder;have:=go_perm next xs.size 0 xs.toList #[] (by simp)
 simpa using this
noncomputable def jK (w:World) (a ep:Nat) (es:Array (Int×Value)):Array (Int×Value):=if w.params.followText "set-order" = true then pickOrder (w.params.setOrder a ep) es else es
theorem ga {ep:Nat} {es:Array (Int×Value)}:(jK w a ep es).toList.Perm es.toList:=by
 unfold jK;split
 ·exact pick_perm _ _
 ·exact List.Perm.refl _
noncomputable def fA (w:World) (m i:Nat):Nat:=if w.params.followText "set-order" = true then 0 else kO m i
theorem my {es:Array (Int×Value)} {ep i:Nat} {Q:Option (Value×Nat)->Shared->Prop} (hm:m<256) (ho:s.heap.get? a=some (gW es ep (dZ (dg w) m))) (S:SSo es m) (hi:i<=es.size)
  (h:Q (((jK w a ep es)[i]?).map fun e=>(e.2,fA w m (i+1))) s):wpAny (model prog w) A (setNext a (fA w m i) i ep) Q E s:=by
 have hf:(dZ (dg w) m).fits es.size=true:=by rw [S.size];exact fitsN hm
 unfold setNext;refine ub (wpAny_setState_of ho rfl hf ?_);unfold setsByText;refine ub (m:=ask >>= fun x=>pure (x.params.followText "set-order")) (ub (wpAny_askSetting (uc ?_)));by_cases hb:w.params.followText "set-order" = true
 ·refine wpAny_ite_true (by show decide (w.params.followText "set-order" = true)=true;rw [hb];rfl) ?_;refine wpAny_ite_false (by simp) ?_;unfold setWalk setsByText;refine ub (ub (wpAny_setState_of ho rfl hf ?_));refine ub (m:=ask >>= fun x=>pure (x.params.followText "set-order")) (ub (wpAny_askSetting (uc ?_)));refine wpAny_ite_true (by show decide (w.params.followText "set-order" = true)=true;rw [hb];rfl) ?_;refine ub (wpAny_askSetting (uc (uc ?_)));unfold jK fA at h;rw [if_pos hb] at h;unfold fA;rw [if_pos hb];rw [if_pos hb] at h;exact h
 ·refine wpAny_ite_false (by show decide (w.params.followText "set-order" = true)=false;simpa using hb) ?_;have hb':w.params.followText "set-order" = false:=by simpa using hb
  have hled:dg w=true:=by unfold dg;rw [hb'];rfl
  unfold jK fA at h;rw [if_neg hb] at h;unfold fA;rw [if_neg hb];rw [if_neg hb] at h;have cn:=iI (led:=dg w) hm;unfold chkN at cn;simp only [um,decide_eq_true_eq] at cn;have hbel:SetTable.below (elS m).toArray (kO m i)=i:=by
   have:=List.all_eq_true.mp cn.1.1 i (List.mem_range.mpr (by rw [<-S.size];omega));simpa using this
  refine wpAny_ite_false rfl ?_;refine ub ?_;rw [hled];refine wpAny_ite_false rfl ?_;refine uc (uc ?_);show Q (match es[SetTable.below (elS m).toArray (kO m i)]?,(elS m).toArray[SetTable.below (elS m).toArray (kO m i)]? with
   | some (_,x),some j=>some (x,j+1)
   | _,_=>none) s
  rw [hbel];have hsz:=S.size;by_cases vk:i<es.size
  ·have h2:(elS m).toArray[i]?=some ((elS m)[i]'(by omega)):=by simp
   rw [Array.getElem?_eq_getElem vk,h2];rw [Array.getElem?_eq_getElem vk] at h;have e:kO m (i+1)=(elS m)[i]'(by omega)+1:=by
    unfold kO;rw [if_neg (by omega)];have:i<(elS m).length:=by omega
    simp [List.getD,this]
   rw [e] at h;exact h
  ·rw [Array.getElem?_eq_none (by omega)] at h ⊢;exact h
theorem fv {I:Addr} {f v:Value} {i n ep:Nat} (h:s.heap.get? I=some (sitO f i v n ep)):s.TypeIs (.ref I) "set_iterator":=⟨_,h,rfl⟩
theorem sit_item {I:Addr} {es:Array (Int×Value)} {ep i:Nat} {e:Int×Value} {Q:Option Value->Shared->Prop} (hm:m<256) (ho:s.heap.get? a=some (gW es ep (dZ (dg w) m))) (S:SSo es m) (hi:i<=es.size)
  (hI:s.heap.get? I=some (sitO (rawInt (fA w m i:Nat)) i (.ref a) es.size ep)) (he:(jK w a ep es)[i]?=some e)
  (hQ:∀ h',h'.get? I=some (sitO (rawInt (fA w m (i+1):Nat)) (i+1) (.ref a) es.size ep)->Heap.SameBut I s.heap h'->Q (some e.2) { s with heap:=h' }) :
  wpAny (model prog w) A (pyNext (.ref I)) Q E s:=by
 have hf:(dZ (dg w) m).fits es.size=true:=by rw [S.size];exact fitsN hm
 unfold pyNext;refine ub (wpAny_attempt (wpAny_callSpecial?_slot (name:=Str.ofString "__next__") (fv hI) f9 (wpAny_call_entry f9 (fv hI) oh ?_ (qw _))));unfold Builtin.«set_iterator.__next__»;refine ub (wpAny_of_eq (a:=(Value.ref I,[])) rfl ?_);refine ub (wpAny_fieldsOf hI rfl ?_);unfold setEntries;refine ub (ub (wpAny_setState_of ho rfl hf (uc ?_)));refine wpAny_ite_false (by simp) ?_;show wpAny _ _ (setNext a (fA w m i) i ep >>= _) _ _ _;refine ub (my hm ho S hi ?_);rw [he];refine ub (wpAny_setField_rec hI (by simp) fun h1 g1 b1=>?_);refine ub (wpAny_setField_rec (s:={ s with heap:=h1 }) g1 (by simp) fun h2 g2 b2=>?_);refine uc ⟨e.2,rfl,uc (hQ h2 ?_ (b1.trans b2))⟩;exact g2
theorem sit_end {I:Addr} {es:Array (Int×Value)} {ep:Nat} {Q:Option Value->Shared->Prop} (hh:A.handled=none) (hm:m<256) (ho:s.heap.get? a=some (gW es ep (dZ (dg w) m))) (S:SSo es m)
  (hI:s.heap.get? I=some (sitO (rawInt (fA w m es.size:Nat)) es.size (.ref a) es.size ep)) (hQ:∀ h',Heap.ExtBut I s.heap h'->Q none { s with heap:=h' }) :
  wpAny (model prog w) A (pyNext (.ref I)) Q E s:=by
 have hf:(dZ (dg w) m).fits es.size=true:=by rw [S.size];exact fitsN hm
 have hn:(jK w a ep es)[es.size]?=none:=by
  have:=(ga (w:=w) (a:=a) (ep:=ep) (es:=es)).length_eq;exact Array.getElem?_eq_none (by simp at this;omega)
 unfold pyNext;refine ub (wpAny_attempt (wpAny_callSpecial?_slot (name:=Str.ofString "__next__") (fv hI) f9 (wpAny_call_entry f9 (fv hI) oh ?_ (qw _))));unfold Builtin.«set_iterator.__next__»;refine ub (wpAny_of_eq (a:=(Value.ref I,[])) rfl ?_);refine ub (wpAny_fieldsOf hI rfl ?_);unfold setEntries;refine ub (ub (wpAny_setState_of ho rfl hf (uc ?_)));refine wpAny_ite_false (by simp) ?_;show wpAny _ _ (setNext a (fA w m es.size) es.size ep >>= _) _ _ _;refine ub (my hm ho S (Nat.le_refl _) ?_);rw [hn];refine ub (wpAny_setField_rec hI (by simp) fun h1 g1 b1=>?_);refine ub ?_;simp only [newExc,newTuple];refine ub (wpAny_newObj_type ?_ (by size_fits));refine ub (m:=firstArgMember _ _) (wpAny_of_eq (a:=Value.none) (by first | rfl | (simp only [firstArgMember];rfl)) ?_);refine wpAny_newObj_type ?_ (by size_fits);simp only [raiseNew];refine ub (wpAny_handled ?_)
 first | rw [show A.in1.handled=none from hh] | rw [hh]
 refine ub (uc (wpAny_throw ?_));refine ub (wpAny_isInstance (T:="StopIteration") (b:=true) ⟨_,Heap.get?_push_size _ rfl,rfl⟩ isSubtype_stop ?_);exact uc (hQ _ ((b1.extBut.push _).push _))
end
theorem qx:Slot "set_iterator" "__iter__" "set_iterator.__iter__":=.of (owner:="set_iterator") (n:="__iter__") (by rw [typeLookup_type,builtinLookup_eq_fast];kernel_rfl) (by decide +kernel) (by decide +kernel) (by decide +kernel) (by first | exact .inl (by decide +kernel) | exact .inr (by decide +kernel)) (by rw [isSubtype_type];kernel_rfl)
theorem mz:entryFor table "set_iterator.__iter__" = some Builtin.«dict_keyiterator.__iter__»:=
 entryFor_alias (id':="dict_keyiterator.__iter__") (by kernel_rfl) (by first | rfl | decide +kernel | (unfold String.splitOn;simp +decide [String.splitOnAux])) (by decide +kernel) (by kernel_rfl)
theorem nF (a:Value):argsOk "set_iterator.__iter__" ⟨[a],[]⟩:=by
 unfold argsOk;rw [signature?_of (id:="set_iterator.__iter__") (n:="__iter__".toList.reverse) (o:="set_iterator".toList.reverse) (by kernel_rfl) own_sit];kernel_rfl
theorem set_len8:typeLookup (.type "set") "__len__" = pure (some (.builtin "set.__len__")):=by rw [typeLookup_type,builtinLookup_eq_fast];kernel_rfl
section
variable {prog:Program} {w:World} {A:Around} {E:Value->Shared->Prop} {s:Shared} {a:Addr} {m:Nat}
theorem sit_walks {I:Addr} {es:Array (Int×Value)} {ep:Nat} (hh:A.handled=none) (hm:m<256) (S:SSo es m) (vj:a≠I) :
  WalksS prog w A I [I,a] [I] (fun x y=>y=x) es.size (fun i v=>∃ e,(jK w a ep es)[i]?=some e/\v=e.2)
   (fun i s=>s.heap.get? a=some (gW es ep (dZ (dg w) m))/\s.heap.get? I=some (sitO (rawInt (fA w m i:Nat)) i (.ref a) es.size ep)) where
 sub:=fun b hb=>by rw [List.mem_singleton.mp hb];exact List.mem_cons_self
 grefl:=fun _=>rfl
 gtrans:=fun _ _ _ h1 h2=>h2.trans h1
 frame:=fun i s h' tk st _ hk=>⟨hk _ (by simp) _ st.1,hk _ (by simp) _ st.2⟩
 item:=fun i s Q E hi st hQ=>by
  have hl:=(ga (w:=w) (a:=a) (ep:=ep) (es:=es)).length_eq;have vk:i<(jK w a ep es).size:=by simp at hl;omega
  refine sit_item hm st.1 S (Nat.le_of_lt hi) st.2 (Array.getElem?_eq_getElem vk) fun h' g k=>?_;exact hQ _ _ ⟨_,Array.getElem?_eq_getElem vk,rfl⟩ ⟨(k.2 _ vj).trans st.1,g⟩ ⟨fun b o hb e=>(k.2 b (fun z=>hb (by rw [z];exact List.mem_cons_self))).trans e,rfl,rfl,rfl,Nat.le_refl _⟩
 done:=fun s Q E st hQ=>by
  refine sit_end hh hm st.1 S st.2 fun h' k=>?_;exact hQ _ ⟨fun b o hb e=>k b o (fun z=>hb (by rw [z];exact List.mem_cons_self)) e,rfl,rfl,rfl,Nat.le_refl _⟩
 self:=fun i s Q E st hQ=>by
  refine wpAny_pyIter_slot (fv st.2) qx (wpAny_call_entry qx (fv st.2) mz ?_ (nF _));show wpAny _ _ (ret (.ref I)) _ _ s;exact uc ⟨_,rfl, "set_iterator",_,fv st.2,f9.lookup,hQ⟩
theorem items_map {P:Nat->Value->Prop} {acc:Array Value} {l:Array (Int×Value)} (h:ItemsOf P acc l.size) (hP:∀ i v,P i v->∃ e,l[i]?=some e/\v=e.2):acc.toList=l.toList.map (·.2):=by
 refine List.ext_getElem? fun i=>?_;rw [List.getElem?_map,Array.getElem?_toList,Array.getElem?_toList];cases ha:acc[i]? with
 | none=>
  have:acc.size<=i:=by simpa using ha
  rw [Array.getElem?_eq_none (by rw [h.1] at this;exact this)];rfl
 | some v=>
  obtain ⟨e,h1,h2⟩:=hP i v (h.2 i v ha);rw [h1,h2];rfl
theorem pi {Q:List Value->Shared->Prop} (hh:A.handled=none) (hm:m<256) (hS:SS s.heap a (dg w) m)
  (h:∀ (h':Heap) (tk:Nat) (vs:List Value) (ns:List Int),IntsAre vs ns->ns.Perm ((elS m).map Int.ofNat)->(∀ b o,s.heap.get? b=some o->h'.get? b=some o)->s.heap.objs.size<=h'.objs.size->Q vs { s with heap:=h',toks:=tk }) :
  wpAny (model prog w) A (collect (.ref a)) Q E s:=by
 obtain ⟨es,ep,ho,S⟩:=hS;have vk:a<s.heap.objs.size:=Heap.lt_size ho;have hsz:es.size<=8:=by
  have cn:=iI (led:=true) hm;unfold chkN at cn;simp only [um,decide_eq_true_eq] at cn;rw [S.size];exact cn.2
 have hT:∀ s':Shared,s'.heap.get? a=some (gW es ep (dZ (dg w) m))->s'.TypeIs (.ref a) "set":=fun s' e=>⟨_,e,rfl⟩;unfold collect;refine ub (wpAny_runValue (codeAny_builtin F.entry_proto_collect ?_));rw [Around.under_plainId F.plain_proto_collect _];show wpAny _ A.in1 (newList [] >>= fun l=>again (.builtin "list.__iadd__" ⟨[l,.ref a],[]⟩)) _ _ s;refine ub (wpAny_newObj_type ?_);refine uc ⟨plainId_quiet F.plain_list_iadd _,codeAny_builtin F.entry_list_iadd ?_⟩;rw [Around.under_plainId F.plain_list_iadd _];show wpAny _ A.in1 (Builtin.List.listExtendWith (.ref s.heap.objs.size) (.ref a) (.ref s.heap.objs.size)) _ _ _;unfold Builtin.List.listExtendWith;generalize hH:s.heap.push { cls:=.type "list",data:=.seq ([]:List Value).toArray }=H;have hHs:H.objs.size=s.heap.objs.size+1:=by rw [<-hH,Heap.size_push]
 have keep:∀ b o,s.heap.get? b=some o->H.get? b=some o:=fun b o e=>hH▸Heap.get?_push_of_some _ e;have hS₁:H.get? s.heap.objs.size=some { cls:=.type "list",data:=.seq ([]:List Value).toArray }:=hH▸Heap.get?_push_size _ rfl;have ho₁:=keep _ _ ho;have hSa:s.heap.objs.size≠a:=Nat.ne_of_gt vk;refine ub (wpAny_typeOf (hT _ ho₁) ?_);have h1:Builtin.List.listSameRef (.ref s.heap.objs.size) (.ref a)=false:=by simp [Builtin.List.listSameRef,hSa]
 have h2:(Value.type "set"==Value.type "list")=false:=by decide
 have h3:(Value.type "set"==Value.type "tuple")=false:=by decide
 simp only [h1,h2,h3,Bool.or_false,Bool.false_eq_true,if_false];refine ub (iter_set (led:=dg w) hm ho₁ S ?_);refine ub (wpAny_holding ?_);have keep2:∀ b o,H.get? b=some o->(H.push (sitO (rawInt 0) 0 (.ref a) es.size ep)).get? b=some o:=fun b o e=>Heap.get?_push_of_some _ e;have ho₂:=keep2 _ _ ho₁;have hS₂:=keep2 _ _ hS₁;have hI₂:(H.push (sitO (rawInt 0) 0 (.ref a) es.size ep)).get? H.objs.size=some (sitO (rawInt 0) 0 (.ref a) es.size ep):=Heap.get?_push_size _ rfl;unfold Builtin.List.listLengthHint;refine ub (wpAny_specialOf (T:="set") (hT _ ho₂) set_len8 ?_)
 wp_delta
 refine ub (wpAny_isInstance (T:="set") (b:=true) (hT _ ho₂) (by rw [isSubtype_type];kernel_rfl) ?_);show wpAny _ A.in1 (typeOf (Value.ref a) >>= _) _ _ _;refine ub (wpAny_typeOf (T:="set") (hT _ ho₂) ?_);refine uc ?_;generalize hG:H.push (sitO (rawInt 0) 0 (.ref a) es.size ep)=G at *;show wpAny _ A.in1 (rule "list.extend.makes-room" >>= fun _=>Builtin.List.listTouch (.ref s.heap.objs.size) >>= fun _=>
  again (.builtin "list.extend.loop" ⟨[.ref s.heap.objs.size,.ref H.objs.size,.ref s.heap.objs.size],[]⟩)) _ _ _
 refine ub (wpAny_rule ?_);refine ub ?_;show wpAny _ A.in1 (updateSeq s.heap.objs.size (·.push .none) >>= fun _=>updateSeq s.heap.objs.size (·.pop)) _ _ _;refine ub (wpAny_updateSeq hS₂ rfl ?_);have hS₃:=Heap.get?_update_self (Obj.mapSeq (·.push Value.none)) hS₂ rfl;refine wpAny_updateSeq hS₃ rfl ?_;have hS₄:=Heap.get?_update_self (Obj.mapSeq (·.pop)) hS₃ rfl;have oth:∀ b o,b≠s.heap.objs.size->G.get? b=some o->((G.update s.heap.objs.size (Obj.mapSeq (·.push Value.none))).update s.heap.objs.size (Obj.mapSeq (·.pop))).get? b=some o:=
  fun b o hb e=>(Heap.get?_update_other _ _ (Ne.symm hb)).trans ((Heap.get?_update_other _ _ (Ne.symm hb)).trans e)
 have hIa:a≠H.objs.size:=Nat.ne_of_lt (by rw [hHs];exact Nat.lt_succ_of_lt vk);have hSf:s.heap.objs.size∉[H.objs.size,a]:=by
  intro hmm;rcases List.mem_cons.mp hmm with z | z
  ·exact absurd z (by rw [hHs];exact Nat.ne_of_lt (Nat.lt_succ_self _))
  ·exact hSa (List.mem_singleton.mp z)
 refine uc ⟨plainId_quiet F.plain_extend_loop _,codeAny_extend_loopS (sit_walks (prog:=prog) (w:=w) (A:=A.in1) (a:=a) (m:=m) (I:=H.objs.size) (es:=es) (ep:=ep) hh hm S hIa) (by rw [sizeLine_eq];omega) _ hSf _ es.size 0 _ _ _ rfl (Nat.zero_le _)
  ⟨oth _ _ (Ne.symm hSa) ho₂,?_⟩ hS₄ (ItemsOf.nil _) fun s' acc' c' hmv hS' hacc=>?_⟩
 ·have:fA w m 0=0:=by unfold fA kO;split <;> rfl
  rw [this];exact oth _ _ (by rw [hHs];exact Nat.ne_of_gt (Nat.lt_succ_self _)) hI₂
 show wpAny _ A (load s.heap.objs.size >>= _) _ _ s';refine ub (wpAny_load hS' ?_);refine uc ?_;have hl:=items_map (l:=jK w a ep es) (P:=fun i v=>∃ e,(jK w a ep es)[i]?=some e/\v=e.2) (acc:=acc') (by
  have:=(ga (w:=w) (a:=a) (ep:=ep) (es:=es)).length_eq;simp at this;rw [this];exact hacc) (fun _ _ z=>z)
 have e2:s'={ s with heap:=s'.heap,toks:=s'.toks }:=by
  have a1:=hmv.gens;have a2:=hmv.drawn;have a3:=hmv.os;cases s';simp at a1 a2 a3;subst a1 a2 a3;rfl
 have kk:∀ b o,s.heap.get? b=some o->s'.heap.get? b=some o:=fun b o e=>by
  have hb:=Heap.lt_size e;refine hmv.heap b o (fun hmm=>?_) (oth b o (Nat.ne_of_lt hb) (keep2 _ _ (keep _ _ e)));rcases List.mem_cons.mp hmm with z | z
  ·exact absurd z (Nat.ne_of_lt hb)
  ·exact absurd (List.mem_singleton.mp z) (by rw [hHs];exact Nat.ne_of_lt (Nat.lt_succ_of_lt hb))
 rw [e2];have vall:∀ e∈(jK w a ep es).toList,∃ t,e.2=.int e.1 t:=fun e he=>S.val e (ga.mem_iff.mp he);refine h s'.heap s'.toks acc'.toList ((jK w a ep es).toList.map (·.1)) ?_ ?_ kk ?_
 ·rw [hl];generalize (jK w a ep es).toList=l at vall
  induction l with
  | nil=>exact .nil
  | cons e l ih=>
   obtain ⟨t,ht⟩:=vall e List.mem_cons_self;rw [List.map_cons,List.map_cons,ht];exact .cons _ t (ih fun x hx=>vall x (uf _ hx))
 ·rw [<-S.hash];exact ga.map _
 ·exact Nat.le_of_lt (Heap.lt_size hS')
end
end Ew
end
section
namespace Ew
open PySem L2
theorem bitS_test {m n i:Nat}:(iO m n).testBit i=(m.testBit i||decide (i=n)):=by
 unfold iO;split
 ·rename_i h;by_cases e:i=n
  ·subst e;rw [h];rfl
  ·simp [e]
 ·unfold f8;rw [Nat.testBit_or,Nat.testBit_shiftLeft];by_cases e:i=n
  ·subst e;simp
  ·have:(decide (i>=n)&&(1:Nat).testBit (i-n))=false:=by
    by_cases h2:i>=n
    ·have h3:(1:Nat).testBit (i-n)=false:=by
      refine Bool.eq_false_iff.mpr fun z=>?_;have:=Nat.testBit_one_eq_true_iff_self_eq_zero.mp z;omega
     simp [h3]
    ·simp [h2]
   rw [this];simp [e]
theorem oi:∀ {ns:List Nat} {m i:Nat},(ns.foldl iO m).testBit i=(m.testBit i||decide (i∈ns))
 | [],m,i=>by simp
 | n::ns,m,i=>by
  rw [List.foldl_cons,oi,bitS_test];by_cases h1:i=n <;> by_cases h2:i∈ns <;> simp [h1,h2]
noncomputable def pj (ns:List Int):List Int:=((List.range 8).filter fun i=>decide (Int.ofNat i∈ns)).map Int.ofNat
theorem elS_fold {ns:List Nat}:(elS (ns.foldl iO 0)).map Int.ofNat=pj (ns.map Int.ofNat):=by
 unfold elS pj;congr 1;refine List.filter_congr fun i _=>?_;rw [oi];rw [show ((0:Nat).testBit i||decide (i∈ns))=decide (i∈ns) by simp];refine decide_eq_decide.mpr ⟨fun h=>List.mem_map.mpr ⟨i,h,rfl⟩,fun h=>?_⟩;obtain ⟨a,ha,hb⟩:=List.mem_map.mp h;cases Int.ofNat.inj hb;exact ha
theorem rE (m:Nat):((elS m).map Int.ofNat).Pairwise (·<=·):=by
 rw [List.pairwise_map];refine List.Pairwise.imp (R:=(·<·)) (fun h=>by simp at *;omega) ?_;unfold elS;exact List.Pairwise.filter _ List.pairwise_lt_range
section
variable {prog:Program} {w:World} {A:Around} {E:Value->Shared->Prop} {s:Shared} {a:Addr} {m:Nat}
theorem qy {Q:Value->Shared->Prop} (hh:A.handled=none) (hm:m<256) (hS:SS s.heap a (dg w) m)
  (h:∀ (l:Addr) (h':Heap) (tk ep:Nat) (out:List Value),s.heap.objs.size<=l->IntsAre out ((elS m).map Int.ofNat)->h'.get? l=some (seqObj "list" out.toArray ep)->(∀ b o,s.heap.get? b=some o->h'.get? b=some o)->Q (.ref l) { s with heap:=h',toks:=tk }) :
  wpAny (model prog w) A (call (.builtin "sorted") [.ref a]) Q E s:=by
 refine Calls.call_function_entry kind_sorted PyProof.Rows.plain_sorted PyProof.Rows.entry_sorted (PyProof.Rows.args_sorted1 _) ?_;unfold Builtin.«sorted»;refine ub (m:=checkCount "sorted" 1 1 _) (uc ?_);refine ub (pi hh hm hS fun h1 tk vs ns hi hp k1 hsz=>?_);have hlen:vs.length<64:=by
  have cn:=iI (led:=true) hm;unfold chkN at cn;simp only [um,decide_eq_true_eq] at cn;have:=hp.length_eq;rw [hi.length];simp at this;omega
 refine ub (wpAny_newList ?_);have hoL:(h1.push (seqObj "list" vs.toArray 0)).get? h1.objs.size=some (seqObj "list" vs.toArray 0):=Heap.get?_push_size _ rfl;refine ub (wpAny_holding (wpAny_call_entry PyProof.Rows.slot_list_sort ⟨_,hoL,rfl⟩ PyProof.Rows.entry_list_sort (PyProof.Rows.list_sort_tree hoL hi hlen fun out ns' a1 a2 a3=>⟨_,rfl,?_⟩) (PyProof.Rows.args_list_sort _)));refine uc ⟨_,rfl,?_⟩;have en:ns'=(elS m).map Int.ofNat:=List.Perm.eq_of_pairwise (fun a b _ _ h1 h2=>Int.le_antisymm h1 h2) a3 (rE m) (a2.trans hp);subst en;obtain ⟨e,he⟩:=PyProof.Rows.sortedHeap_at (out:=out) hoL;refine h _ _ tk e out.toList hsz a1 (by simpa using he) fun b o hb=>?_;have hb1:=k1 b o hb;have vk:=Heap.lt_size hb1;rw [PyProof.Rows.sortedHeap_old (Nat.ne_of_lt vk) (by rw [PyProof.Rows.size_push'];exact Nat.lt_succ_of_lt vk)];exact Heap.get?_push_of_some _ hb1
end
section
variable {X:Cx}
theorem c_setS8 (hc:X.calm=true):ce X (.type "set") (fun xs H Q=>∃ p vs,∃ (ns:List Nat) (Hs:Hp) (ds:List D),xs=[.ref p]/\H p=some (.lst vs)/\aC Hs ds vs/\nums ds=some (ns.map Int.ofNat)/\(∀ n∈ns,n<8)/\
  ∀ l,H l=none->Q (.ref l) (L2.upd H l (.ext fun h=>SS h l (dg X.w) (ns.foldl iO 0)))):=by
 intro pins s σ H xs us Q I rv h;obtain ⟨p,vs,ns,Hs,ds,rfl,h1,h2,e,h8,q⟩:=h;obtain ⟨u,rfl,ru⟩:=rv.one;cases (show u=Value.ref p from ru);obtain ⟨its,rw',pl,hz'⟩:=I.list (SqL.of (K:=X.K) h1);have hi:=hJ e h2 rw';refine call_set8 (I.ok.hd hc) pl.isList (by simpa using hi) h8 fun h' tk hS hk=>?_;have k:∀ b u,s.heap.get? b=some u->h'.get? b=some u:=fun b u e=>hk b u (Heap.lt_size e) e;exact ⟨.ref s.heap.objs.size,_,I.laid (t':=tk) (o:=.ext fun h=>SS h s.heap.objs.size (dg X.w) (ns.foldl iO 0)) k (Nat.le_refl _) ⟨hS,let ⟨_,_,z,_⟩:=hS;⟨_,z⟩,fun _ _ x y=>x.at y⟩,rfl,q _ (I.hok.fresh (Nat.le_refl _))⟩
theorem c_sortS8 (hc:X.calm=true):ce X (.builtin "sorted") (fun xs H Q=>∃ p m,xs=[.ref p]/\m<256/\H p=some (.ext fun h=>SS h p (dg X.w) m)/\
  ∀ l,H l=none->Q (.ref l) (L2.upd H l (.lst (((elS m).map Int.ofNat).map V.int)))):=by
 intro pins s σ H xs us Q I rv h;obtain ⟨p,m,rfl,hm,h1,q⟩:=h;obtain ⟨u,rfl,ru⟩:=rv.one;cases (show u=Value.ref p from ru);obtain ⟨hS,_,_⟩:=(show cN X.prog X.w H s.heap p (.ext fun h=>SS h p (dg X.w) m) from I.hok p _ h1);refine qy (I.ok.hd hc) hm hS fun l h' tk ep out hl hi hg k=>?_;obtain ⟨q1,q2⟩:=kg (H:=H) hi;refine ⟨.ref l,_,I.laid (t':=tk) (o:=.lst (((elS m).map Int.ofNat).map V.int)) k hl ⟨?_,out,ep,q1,hg⟩,rfl,q _ (I.hok.fresh hl)⟩;have cn:=iI (led:=true) hm;unfold chkN at cn;simp only [um,decide_eq_true_eq] at cn;rw [sizeLine_eq];simp;omega
noncomputable def jL (ns:List Int):Option (List Int):=if ns.all (fun n=>decide (0<=n)&&decide (n<8))=true then some (pj ns) else none
noncomputable def lJ (f:FE):FE:=fun δ=>(f δ).bind fun r=>match r.view with
 | .lst ds=>(nums ds).bind fun ns=>(jL ns).bind fun l=>some (.fr (l.map .int))
 | _=>none
theorem rF {ns:List Int} (h:ns.all (fun n=>decide (0<=n)&&decide (n<8))=true):∃ ms:List Nat,ns=ms.map Int.ofNat/\∀ n∈ms,n<8:=by
 refine ⟨ns.map Int.toNat,?_,?_⟩
 ·rw [List.map_map];refine (List.map_id ns).symm.trans (List.map_congr_left fun n hn=>?_);have:=List.all_eq_true.mp h n hn;simp at this ⊢;omega
 ·intro n hn;obtain ⟨z,hz,rfl⟩:=List.mem_map.mp hn;have:=List.all_eq_true.mp h z hz;simp at this;omega
theorem mB {H:Hp}:∀ ns:List Int,aC H (ns.map D.int) (ns.map V.int)
 | []=>.nil
 | n::ns=>.cons (by unfold Rep;rfl) (mB ns)
theorem de_srtset {e:Expr} {f:FE} {p1 p2 pos1 pos2:Pos} (hc:X.calm=true) (he:DE X e f) (hg:Gl X "sorted") (hm:X.mg "sorted" = none) (hg2:Gl X "set") (hm2:X.mg "set" = none)
  (hs:starEach [e] X.env=[(false,eval e X.env)]:=by rfl)
  (hs2:starEach [.Call (.Name "set" p2) [e] [] pos2] X.env=[(false,eval (.Call (.Name "set" p2) [e] [] pos2) X.env)]:=by rfl) :
  DE X (.Call (.Name "sorted" p1) [.Call (.Name "set" p2) [e] [] pos2] [] pos1) (lJ f):=.mk <|
 (fV (c_sortS8 hc) hg hm boot_sorted (bM (fW (c_setS8 hc) hg2 hm2 boot_set (bM he.go cX hs) (he:=hs)) cX hs2) (he:=hs2)).weak fun σ H Q ⟨Hs,δ,r,S,En,e,K⟩=>by
  unfold lJ at e;cases ef:f δ with
  | none=>rw [ef] at e;cases e
  | some rf=>
   rw [ef] at e;refine ⟨Hs,δ,rf,S,En,ef,fun x uq H1 W1 R1=>?_⟩;have vw:=R1.view;replace e:(match rf.view with
    | .lst ds=>(nums ds).bind fun ns=>(jL ns).bind fun l=>some (R.fr (l.map .int))
    | _=>none)=some r:=e
   cases hv:rf.view with
   | lst ds=>
    rw [hv] at e vw;replace e:((nums ds).bind fun ns=>(jL ns).bind fun l=>some (R.fr (l.map .int)))=some r:=e;cases en:nums ds with
    | none=>rw [en] at e;cases e
    | some ns=>
     rw [en] at e;replace e:((jL ns).bind fun l=>some (R.fr (l.map .int)))=some r:=e;unfold jL at e;by_cases hz:ns.all (fun n=>decide (0<=n)&&decide (n<8))=true
     ·rw [if_pos hz] at e;cases e;obtain ⟨ms,rfl,h8⟩:=rF hz;obtain ⟨a,vs,rfl,h1,h2⟩:=vw.lst W1.sub;refine ⟨a,vs,ms,uq,ds,rfl,h1,h2,en,h8,fun l hl=>⟨l,_,rfl,fold_lt (by decide) h8,aB,fun l2 hl2=>?_⟩⟩;have W2:=W1.trans (.fresh (o:=.ext fun h=>SS h l (dg X.w) (ms.foldl iO 0)) W1.sub hl);have W3:=W2.trans (.fresh (o:=.lst (((elS (ms.foldl iO 0)).map Int.ofNat).map V.int)) W2.sub hl2);exact K _ uq _ W3 ⟨l2,_,rfl,W2.keep.free hl2,W2.sub.free hl2,aB,by rw [elS_fold];exact mB _⟩
     ·rw [if_neg hz] at e;cases e
   | _=>rw [hv] at e;cases e
end
end Ew
end
section
namespace Ew
open PySem PySem.Spec L2
section
variable {X:Cx} {e o:Expr} {f fo:FE} {g:FN} {E:XK} {fr:DSt->Option (List R)}
noncomputable def jf (C:Addr) (name:Str) (n:Nat) (m:List D->Option (List D)) (fo:FE) (fa:DSt->Option (List R)):FE:=fun δ=>(fo δ).bind fun r=>match r.view with
 | .obj C' fs=>if C'=C/\fs.lookup name=none then (fa δ).bind fun rs=>g9 n m (r::rs) else none
 | _=>none
theorem tD_methF {n:Nat} {m:List D->Option (List D)} {C:Addr} {name:Str} {σ:St} {H:Hp} {Q:VK} (h:tD (jf C name n m fo fr) σ H Q):lV C name (spF n m) [] E (tD fo) (tDA fr) σ H Q:=by
 obtain ⟨Hs,δ,r,S,En,e,K⟩:=h;unfold jf at e;cases ea:fo δ with
 | none=>rw [ea] at e;cases e
 | some ra=>
  rw [ea] at e;refine ⟨Hs,δ,ra,S,En,ea,fun x uq H1 W1 R1=>?_⟩;have vw:=R1.view;replace e:(match ra.view with
   | .obj C' fs=>if C'=C/\fs.lookup name=none then (fr δ).bind fun rs=>g9 n m (ra::rs) else none
   | _=>none)=some r:=e
  cases hv:ra.view with
  | obj C' fs=>
   rw [hv] at e vw;replace e:(if C'=C/\fs.lookup name=none then (fr δ).bind fun rs=>g9 n m (ra::rs) else none)=some r:=e;by_cases hc:C'=C/\fs.lookup name=none
   ·rw [if_pos hc] at e;obtain ⟨hC,hn⟩:=hc;subst hC;obtain ⟨a,dx,fvs,e1,h1,h2⟩:=vw.obj W1.sub;refine ⟨a,dx,fvs,e1,h1,h2.none hn,?_⟩;cases eb:fr δ with
    | none=>rw [eb] at e;cases e
    | some rs=>
     rw [eb] at e;refine ⟨uq,δ,rs,W1.sub,En.mono W1,eb,fun vs uv H2 W2 R2=>?_⟩;show spF n m (x::(vs++[])) H2 Q E;rw [List.append_nil];exact sp_mcallF (rs:=ra::rs) (W1.trans W2) (show dl H uv H2 (ra::rs) (x::vs) from ⟨x,vs,rfl,R1.mono W2,R2.older W1.keep⟩) e K
   ·rw [if_neg hc] at e;cases e
  | _=>rw [hv] at e;cases e
theorem de_mF0 {C:Addr} {x:Str} {n:Nat} {m:List D->Option (List D)} (h:PE X e (lV C x (spF n m) [] E0 (tD fo) tNil)):DE X e (jf C x n m fo af):=.mk <| h.weak fun σ H Q hq=>by
 obtain ⟨Hs,δ,r,S,En,e,K⟩:=tD_methF (E:=E0) hq;refine ⟨Hs,δ,r,S,En,e,fun x0 uq H1 W1 R1=>?_⟩;obtain ⟨a,dx,fs,e1,h1,h2,uv,δ2,rs,S2,En2,e2,K2⟩:=K x0 uq H1 W1 R1;refine ⟨a,dx,fs,e1,h1,h2,?_⟩;cases e2;exact K2 [] uv H1 (.refl S2) rfl
noncomputable def sappT (f0 f:FE):FS:=fun δ=>(f0 δ).bind fun r0=>match r0 with
 | .fr ds=>(f δ).bind fun r=>if r.isBw=true then none else if ds.length<=big then some (.nx δ) else none
 | _=>none
theorem rG {f0:FE} {apos cpos pos:Pos} (h0:DE X o f0) (he:DE X e f)
  (uy:attributeBase o "append" X.env (eval o X.env)=eval o X.env:=by rfl)
  (vc:((backTo cpos (starEach [e] X.env)).all (fun x=>!x.1)&&(backToKw cpos (keywordEach [] X.env)).all (fun x=>x.1.isSome)
   &&decide ([e].length+([]:List Keyword).length+(if ([]:List Keyword).isEmpty then 0 else 1)<30))=true:=by rfl)
  (uz:(apos.endLine==cpos.line)=true:=by rfl) (hs:starEach [e] X.env=(false,eval e X.env)::starEach [] X.env:=by rfl)
  (hsw:swapsWith (.Call (.Attribute o "append" apos) [e] [] cpos) none pos.line X.env=pure false:=by rfl) :
  DS X (.Expr (.Call (.Attribute o "append" apos) [e] [] cpos) pos) (sappT f0 f):=.mk fun H0 uw=>
 (iB (pe_bm plainAttrs_list F.slot_list_append F.type_list_append iC h0.go (bM he.go cX hs) uy vc uz hs) hsw).weak fun D σ H ⟨Hs,δ,res,W,S,e,P⟩=>by
  unfold sappT at e;cases e0:f0 δ with
  | none=>rw [e0] at e;cases e
  | some r0=>
   rw [e0] at e
   match r0,e,e0 with
   | .fr ds,e,e0=>
    replace e:((f δ).bind fun r=>if r.isBw=true then none else if ds.length<=big then some (Res.nx δ) else none)=some res:=e;cases ef:f δ with
    | none=>rw [ef] at e;cases e
    | some r=>
     rw [ef] at e;replace e:(if r.isBw=true then none else if ds.length<=big then some (Res.nx δ) else none)=some res:=e;by_cases hb:r.isBw=true
     ·rw [if_pos hb] at e;cases e
     ·rw [if_neg hb] at e;by_cases hz:ds.length<=big
      ·rw [if_pos hz] at e;cases e;refine ⟨Hs,δ,.fr ds,W.sub,S.ent,e0,fun v uq H1 W1 R1=>?_⟩;obtain ⟨p,vs,rfl,n0,n1,h1,h2⟩:=R1;refine ⟨.inl ⟨rfl,vs,.of h1⟩,uq,δ,r,W1.sub,(S.mono W1).ent,ef,fun y uv H2 W2 R2=>?_⟩;refine ⟨p,vs,y,rfl,rfl,W2.keep _ _ h1,?_,?_⟩
       ·rw [h2.length];exact bS hz
       ·have W12:=W1.trans W2;have np:uv p=none:=W2.stay h1 n1;have W':Wd H Hs uv (L2.upd H2 p (.lst (vs++[y]))):=⟨fun b o eb=>by
         rw [aD (aK eb n0)];exact W12.keep b o eb,fun b o eb=>by
         rw [aD (aK eb np)];exact W12.sub b o eb,W12.base,W12.new⟩
        exact P σ uv _ (W.trans W') (S.mono W')
      ·rw [if_neg hz] at e;cases e
noncomputable def mC (k i:Nat) (g:FN):FS:=fun δ=>(g (frz k δ)).bind fun d=>some (.nx (δ.set i (some (.sh d))))
theorem ds_setSB {k i:Nat} {x:Str} {pos pos':Pos} (hN:X.N.Nodup) (hi:X.N[i]?=some x) (hx:Loc X.env.scope x) (he:DN X e g) (hs:swapsWith e (some (.Name x pos')) pos.line X.env=pure false:=by rfl)
  (hf:X.fn x=true\/X.env.scope.names.lookup x=some .local:=by first | exact .inl rfl | exact .inr rfl | assumption):DS X (.Assign [.Name x pos'] e pos) (mC k i g):=.mk fun H0 uw=>(lS hN hi hx he.go hs hf).weak fun D σ H ⟨Hs,δ,res,W,S,e,P⟩=>by
 unfold mC at e;cases et:g (frz k δ) with
 | none=>rw [et] at e;cases e
 | some d=>
  rw [et] at e;cases e;obtain ⟨uq,W1,S1⟩:=S.frz (i:=k) W;refine ⟨uq,_,d,W1.sub,S1.ent,et,fun v uv H2 L W2 O n=>?_⟩;have W3:=W2.lend W.sub;obtain ⟨Hs4,q,s1,s2,s3⟩:=O.share W3.sub fun a ha=>W.sub.free (n a ha).1;have W4:Wd H Hs Hs4 H2:=⟨W3.keep,s1,W3.base.trans s2,fun a o e=>(s3 a o e).elim (W3.new a o) fun z=>.inr (n a z).1⟩;exact P _ Hs4 H2 (W.trans W4) (S.put W.keep W4 q fun b hb=>by cases hb)
end
section
variable {P:Program} {w:World} {K:Frag} {mg:Str->Option Value} {base:Heap} {x q:Str} {st:Stmt} {ps:List Str} {k:Nat} {F:FS}
theorem fF {F0:Fb K x q st ps} (L:List Str) (h:Bod P w mg base k F0 L F) (S:fO (ps++L) ps (au st)=true:=by kernel_rfl):Ok P w mg base (k+1) F0 (spF ps.length (runF (ps++L).length F)):=
 fn_F F0.fn (fO.fs S) fun ux A o s H E hr=>h ux A o s H E hr (fO.fs S).nd
end
section
variable {X:Cx} {e o:Expr} {fo f0 f:FE} {g:FN} {x q:Str} {st:Stmt} {ps:List Str} {pos pos' apos cpos:Pos} {i j k n:Nat} {C:Addr} {m:List D->Option (List D)}
theorem dmF0 {F:Md X.K C x q st ps} {pl:Sem Bool} (c:Cls X.K C) (G:Ok X.prog X.w X.mg X.base k F.toFb (spF n m)) (hr:bG j X.A) (ho:DE X o fo) (hk:k<=j:=by decide)
  (ht:eval (.Call (.Attribute o x apos) [] [] pos) X.env=(do
   let ov <-eval o X.env
   standAt apos.atName
   let (f,first) <-holding [ov] (getMethod ov x pl)
   callWith pos f first (backTo pos (starEach [] X.env)) (backToKw pos (keywordEach [] X.env))):=by rfl):DE X (.Call (.Attribute o x apos) [] [] pos) (jf C x n m fo af):=
 de_mF0 (p9 (E:=E0) ho.go c F.mt G (hr.mono hk) F.bd .nil lX ht)
theorem stSB (hN:X.N.Nodup) (he:DN X e g) (hi:X.N[i]?=some x:=by rfl) (hx:Loc X.env.scope x:=by first | exact .inl rfl | exact .inr rfl) (hs:swapsWith e (some (.Name x pos')) pos.line X.env=pure false:=by rfl)
 (hf:X.fn x=true\/X.env.scope.names.lookup x=some .local:=by first | exact .inl rfl | exact .inr rfl | assumption):DS X (.Assign [.Name x pos'] e pos) (mC k i g):=ds_setSB hN hi hx he hs hf
end
end Ew
end
section
namespace Mx
section
variable {P N:Type} [DecidableEq P] [DecidableEq N]
abbrev Wlk (P N:Type):=List P×List N
noncomputable def a0 (w:Wlk P N):List (P×P×N):=w.1.zip (w.1.tail.zip w.2)
theorem nG (qs:List P) (ns:List N) (b c:P) (n:N) (h:qs.length=ns.length) :
  a0 (qs++[b]++[c],ns++[n])=a0 (qs++[b],ns)++[(b,c,n)]:=by
 induction qs generalizing ns with
 | nil=>cases ns with
  | nil=>rfl
  | cons m ns=>simp at h
 | cons q qs ih=>cases ns with
  | nil=>simp at h
  | cons m ns=>
   have:=ih ns (by simpa using h);cases qs with
   | nil=>cases ns with
    | nil=>rfl
    | cons _ _=>simp at h
   | cons q' qs=>simp [a0] at this ⊢;exact this
theorem pk {ps:List P} {ns:List N} {b c:P} {n:N} (hl:ps.getLast?=some b) (h:ps.length=ns.length+1) :
  a0 (ps++[c],ns++[n])=a0 (ps,ns)++[(b,c,n)]:=by
 obtain ⟨qs,rfl⟩ : ∃ qs,ps=qs++[b]:=by
  rw [List.getLast?_eq_some_iff] at hl;exact hl
 exact nG qs ns b c n (by simpa using h)
inductive Sw (L:List (P×P×N)) (ends:List P) (a:P):P->List P->List N->Prop
 | nil:Sw L ends a a [a] []
 | snoc {b ps ns c n}:Sw L ends a b ps ns->(b,c,n)∈L->c∉ps->b∉ends->Sw L ends a c (ps++[c]) (ns++[n])
namespace Sw
variable {L:List (P×P×N)} {ends:List P} {a b:P} {ps:List P} {ns:List N}
theorem last (h:Sw L ends a b ps ns):ps.getLast?=some b:=by cases h <;> simp
theorem head (h:Sw L ends a b ps ns):ps.head?=some a:=by
 induction h with
 | nil=>rfl
 | snoc h1 _ _ _ ih=>rw [List.head?_append,ih];rfl
theorem len (h:Sw L ends a b ps ns):ps.length=ns.length+1:=by
 induction h with
 | nil=>rfl
 | snoc h1 _ _ _ ih=>simp [ih]
theorem nodup (h:Sw L ends a b ps ns):ps.Nodup:=by
 induction h with
 | nil=>simp
 | snoc h1 _ hc _ ih=>
  rw [List.nodup_append];refine ⟨ih,by simp,?_⟩;intro x hx y hy;simp at hy;subst hy;intro e;subst e;exact hc hx
theorem memA (h:Sw L ends a b ps ns):a∈ps:=by
 induction h with
 | nil=>simp
 | snoc h1 _ hc _ ih=>simp [ih]
theorem memB (h:Sw L ends a b ps ns):b∈ps:=by
 cases h <;> simp
theorem inner (h:Sw L ends a b ps ns):∀ p∈ps,p=b\/p∉ends:=by
 induction h with
 | nil=>simp
 | snoc h1 _ hc hb ih=>
  intro p hp;simp at hp;rcases hp with hp | hp
  ·rcases ih p hp with e | e
   ·subst e;exact .inr hb
   ·exact .inr e
  ·exact .inl hp
theorem steps_snoc {c n} (h:Sw L ends a b ps ns):a0 (ps++[c],ns++[n])=a0 (ps,ns)++[(b,c,n)]:=pk h.last h.len
theorem step (h:Sw L ends a b ps ns):∀ s∈a0 (ps,ns),s∈L/\s.1∈ps/\s.2.1∈ps/\s.2.2∈ns/\s.2.1≠a/\s.1∉ends:=by
 induction h with
 | nil=>intro s hs;simp [a0] at hs
 | snoc h1 hL hc hb ih=>
  intro s hs;rw [h1.steps_snoc] at hs;simp at hs;rcases hs with hs | hs
  ·obtain ⟨i1,i2,i3,i4,i5,i6⟩:=ih s hs;exact ⟨i1,by simp [i2],by simp [i3],by simp [i4],i5,i6⟩
  ·subst hs;refine ⟨hL,by simp [h1.memB],by simp,by simp,?_,hb⟩;intro e;simp at e;subst e;exact hc h1.memA
theorem names (h:Sw L ends a b ps ns):(a0 (ps,ns)).map (·.2.2)=ns:=by
 induction h with
 | nil=>rfl
 | snoc h1 hL hc hb ih=>rw [h1.steps_snoc];simp [ih]
theorem stepsNodup (h:Sw L ends a b ps ns):(a0 (ps,ns)).Nodup:=by
 induction h with
 | nil=>simp [a0]
 | snoc h1 hL hc hb ih=>
  rw [h1.steps_snoc,List.nodup_append];refine ⟨ih,by simp,?_⟩;intro x hx y hy e;simp at hy;subst hy;subst e;exact hc (h1.step _ hx).2.2.1
theorem namesNodup (h:Sw L ends a b ps ns) (U:∀ s∈L,∀ t∈L,s.2.2=t.2.2->t=s\/t=(s.2.1,s.1,s.2.2)):ns.Nodup:=by
 induction h with
 | nil=>simp
 | snoc h1 hL hc hb ih=>
  rw [List.nodup_append];refine ⟨ih,by simp,?_⟩;intro x hx y hy e;simp at hy;subst hy;subst e;rw [<-h1.names] at hx;simp only [List.mem_map] at hx;obtain ⟨s,hs,e⟩:=hx;have q:=h1.step s hs;rcases U s q.1 _ hL e with e' | e'
  ·rw [<-e'] at q;exact hc q.2.2.1
  ·have:s.1=_:=(congrArg (fun (x:P×P×N)=>x.2.1) e').symm;simp at this;rw [this] at q;exact hc q.2.1
end Sw
noncomputable def scan1 (w:Wlk P N) (q:List (Wlk P N)×List P) (s:P×P×N):List (Wlk P N)×List P:=
 if w.1.getLast?=some s.1/\s.2.1∉q.2 then (q.1++[(w.1++[s.2.1],w.2++[s.2.2])],q.2++[s.2.1]) else q
noncomputable def scan (L:List (P×P×N)) (w:Wlk P N) (q:List (Wlk P N)×List P):=L.foldl (scan1 w) q
noncomputable def jg (ends:List P) (w:Wlk P N):Bool:=match w.1.getLast? with
 | some b=>decide (b∈ends)
 | none=>false
noncomputable def bfs (L:List (P×P×N)) (ends:List P):Nat->Nat->List (Wlk P N)×List P->Option (Wlk P N)
 | 0,_,_=>none
 | f+1,k,q=>match q.1[k]? with
  | none=>none
  | some w=>if jg ends w then some w else bfs L ends f (k+1) (scan L w q)
noncomputable def cY (n:Nat) (L:List (P×P×N)) (a:P) (ends:List P):Option (Wlk P N):=bfs L ends n 0 ([([a],[])],[a])
structure Inv (L L0:List (P×P×N)) (ends:List P) (a:P) (q:List (Wlk P N)×List P):Prop where
 nd:q.2.Nodup
 ls:q.1.map (fun w=>w.1.getLast?)=q.2.map some
 ok:∀ w∈q.1,∃ b,Sw L0 ends a b w.1 w.2/\∀ p∈w.1,p∈q.2
 sub:∀ p∈q.2,p=a\/∃ s∈L0,s.2.1=p
 ha:a∈q.2
theorem scan1_inv {L L0:List (P×P×N)} {ends:List P} {a b:P} {q:List (Wlk P N)×List P} {w:Wlk P N} {s:P×P×N}
  (I:Inv L L0 ends a q) (hw:Sw L0 ends a b w.1 w.2) (hm:∀ p∈w.1,p∈q.2) (hb:b∉ends) (hs:s∈L0) :
  Inv L L0 ends a (scan1 w q s)/\(∃ e,(scan1 w q s).1=q.1++e)/\(∃ e,(scan1 w q s).2=q.2++e)/\(s.1=b->s.2.1∈(scan1 w q s).2):=by
 unfold scan1;rw [hw.last];split
 ·rename_i h;obtain ⟨h1,h2⟩:=h;simp at h1;subst h1;refine ⟨⟨?_,?_,?_,?_,?_⟩,⟨_,rfl⟩,⟨_,rfl⟩,by simp⟩
  ·rw [List.nodup_append];refine ⟨I.nd,by simp,?_⟩;intro x hx y hy e;simp at hy;subst hy;subst e;exact h2 hx
  ·simp [I.ls]
  ·intro w' hw';simp at hw';rcases hw' with hw' | hw'
   ·obtain ⟨b',i1,i2⟩:=I.ok w' hw';exact ⟨b',i1,fun p hp=>by simp [i2 p hp]⟩
   ·subst hw';refine ⟨s.2.1,.snoc hw hs (fun h=>h2 (hm _ h)) hb,?_⟩;intro p hp;simp at hp ⊢;rcases hp with hp | hp
    ·exact .inl (hm p hp)
    ·exact .inr hp
  ·intro p hp;simp at hp;rcases hp with hp | hp
   ·exact I.sub p hp
   ·exact .inr ⟨s,hs,hp.symm⟩
  ·simp [I.ha]
 ·rename_i h;refine ⟨I,⟨[],by simp⟩,⟨[],by simp⟩,?_⟩;intro e;subst e;simp at h;exact h
theorem mD {L0:List (P×P×N)} {ends:List P} {a b:P} {w:Wlk P N} (hw:Sw L0 ends a b w.1 w.2) (hb:b∉ends) :
  ∀ (L:List (P×P×N)) (q:List (Wlk P N)×List P),(∀ s∈L,s∈L0)->Inv L0 L0 ends a q->(∀ p∈w.1,p∈q.2)->
  Inv L0 L0 ends a (scan L w q)/\(∃ e,(scan L w q).1=q.1++e)/\(∃ e,(scan L w q).2=q.2++e)/\(∀ s∈L,s.1=b->s.2.1∈(scan L w q).2)
 | [],q,_,I,hm=>⟨I,⟨[],by simp [scan]⟩,⟨[],by simp [scan]⟩,by simp⟩
 | s::L,q,hL,I,hm=>by
  obtain ⟨i1,⟨e1,j1⟩,⟨e2,j2⟩,i4⟩:=scan1_inv I hw hm hb (hL s (by simp));have hm':∀ p∈w.1,p∈(scan1 w q s).2:=fun p hp=>by rw [j2];simp [hm p hp]
  obtain ⟨k1,⟨f1,l1⟩,⟨f2,l2⟩,k4⟩:=mD hw hb L (scan1 w q s) (fun t ht=>hL t (by simp [ht])) i1 hm';have e:scan (s::L) w q=scan L w (scan1 w q s):=rfl;rw [e];refine ⟨k1,⟨e1++f1,by rw [l1,j1];simp⟩,⟨e2++f2,by rw [l2,j2];simp⟩,?_⟩;intro t ht et;simp at ht;rcases ht with ht | ht
  ·subst ht;rw [l2];exact List.mem_append.2 (.inl (i4 et))
  ·exact k4 t ht et
structure Shut (L:List (P×P×N)) (a:P) (S:List P):Prop where
 ha:a∈S
 cl:∀ s∈L,s.1∈S->s.2.1∈S
noncomputable def BfsOk (L:List (P×P×N)) (a:P) (ends:List P):Option (Wlk P N)->Prop
 | some w=>∃ b,b∈ends/\Sw L ends a b w.1 w.2
 | none=>∃ S,Shut L a S/\∀ p∈S,p∉ends
theorem pq {L:List (P×P×N)} {ends:List P} {a:P} {q:List (Wlk P N)×List P} (I:Inv L L ends a q):q.1.length<=L.length+1:=by
 have h1:q.1.length=q.2.length:=by have:=congrArg List.length I.ls;simpa using this
 have h2:=List.Nodup.length_le_of_subset (l₂:=a::L.map (·.2.1)) I.nd (by
  intro p hp;rcases I.sub p hp with e | ⟨s,hs,e⟩
  ·simp [e]
  ·simp only [List.mem_cons,List.mem_map];exact .inr ⟨s,hs,e⟩)
 simp at h2;omega
theorem bfs_ok {L:List (P×P×N)} {ends:List P} {a:P}:∀ (f k:Nat) (q:List (Wlk P N)×List P),Inv L L ends a q->
  (∀ i,i<k->∀ w,q.1[i]?=some w->jg ends w=false/\∀ s∈L,w.1.getLast?=some s.1->s.2.1∈q.2)->k<=q.1.length->L.length+2<=f+k->
  BfsOk L a ends (bfs L ends f k q)
 | 0,k,q,I,_,hk,hf=>by have:=pq I;omega
 | f+1,k,q,I,hd,hk,hf=>by
  unfold bfs;split
  ·rename_i hn;have hk':k=q.1.length:=by
    rw [List.getElem?_eq_none_iff] at hn;omega
   have key:∀ p∈q.2,∃ i w,i<k/\q.1[i]?=some w/\w.1.getLast?=some p:=by
    intro p hp;have:some p∈q.1.map (fun w=>w.1.getLast?):=by rw [I.ls];simp [hp]
    rw [List.mem_map] at this;obtain ⟨w,hw,e⟩:=this;obtain ⟨i,hi,e'⟩:=List.mem_iff_getElem.1 hw;exact ⟨i,w,by omega,by simp [e',hi],e⟩
   refine ⟨q.2,⟨I.ha,?_⟩,?_⟩
   ·intro s hs hp;obtain ⟨i,w,hi,hw,hl⟩:=key s.1 hp;exact (hd i hi w hw).2 s hs hl
   ·intro p hp he;obtain ⟨i,w,hi,hw,hl⟩:=key p hp;have:=(hd i hi w hw).1;simp [jg,hl,he] at this
  ·rename_i w hw;obtain ⟨b,sw,hm⟩:=I.ok w (List.mem_of_getElem? hw);split
   ·rename_i hl;simp [jg,sw.last] at hl;exact ⟨b,hl,sw⟩
   ·rename_i hl;have hb:b∉ends:=by simpa [jg,sw.last] using hl
    obtain ⟨i1,⟨e1,j1⟩,⟨e2,j2⟩,i4⟩:=mD sw hb L q (fun _ h=>h) I hm;have hk2:k<q.1.length:=by
     rcases Nat.lt_or_ge k q.1.length with h | h
     ·exact h
     ·rw [List.getElem?_eq_none h] at hw;simp at hw
    apply bfs_ok f (k+1) _ i1
    ·intro i hi w' hw';rw [j1,List.getElem?_append_left (by omega)] at hw';by_cases hik:i=k
     ·subst hik;rw [hw] at hw';simp at hw';subst hw';refine ⟨by simpa using hl,?_⟩;intro s hs e;rw [sw.last] at e;simp at e;exact i4 s hs e.symm
     ·obtain ⟨d1,d2⟩:=hd i (by omega) w' hw';refine ⟨d1,fun s hs e=>?_⟩;rw [j2];simp [d2 s hs e]
    ·rw [j1];simp;omega
    ·omega
theorem kq {L:List (P×P×N)} {a:P} {ends:List P} {n:Nat} (h:L.length+2<=n):BfsOk L a ends (cY n L a ends):=by
 apply bfs_ok
 ·exact ⟨by simp,by simp,by intro w hw;simp at hw;subst hw;exact ⟨a,.nil,by simp⟩,by simp,by simp⟩
 ·intro i hi;omega
 ·simp
 ·omega
end
section
variable {P N:Type} [DecidableEq P] [DecidableEq N]
abbrev bn (P N:Type):=List (P×P×N)
noncomputable def turned (s:P×P×N):P×P×N:=(s.2.1,s.1,s.2.2)
noncomputable def pw (s:P×P×N):N:=s.2.2
noncomputable def am (L:bn P N) (names:List N):bn P N:=L.filter fun s=>decide (s.2.2∉names)
theorem jM {α β:Type} {f:α->β}:∀ {L:List α},(L.map f).Nodup->L.Nodup
 | [],_=>by simp
 | x::L,h=>by
  simp only [List.map_cons,List.nodup_cons] at h ⊢;exact ⟨fun hx=>h.1 (List.mem_map_of_mem hx),jM h.2⟩
theorem iR {α β:Type} {f:α->β}:∀ {L:List α},L.Nodup->(∀ x∈L,∀ y∈L,f x=f y->x=y)->(L.map f).Nodup
 | [],_,_=>by simp
 | x::L,h,hf=>by
  simp only [List.map_cons,List.nodup_cons] at h ⊢;refine ⟨?_,iR h.2 fun y hy z hz=>hf y (by simp [hy]) z (by simp [hz])⟩;intro hx;obtain ⟨y,hy,e⟩:=List.mem_map.1 hx;have:=hf y (by simp [hy]) x (by simp) e;subst this;exact h.1 hy
theorem pz {α:Type} {p:α->Bool} {L:List α} (h:L.Nodup):(L.filter p).Nodup:=List.Pairwise.filter p h
noncomputable def jN (L:bn P N):Prop:=∀ s∈L,∀ t∈L,s.2.2=t.2.2->t=s\/t=(s.2.1,s.1,s.2.2)
theorem aJ {L:bn P N} {ns:List N} {s:P×P×N}:s∈am L ns↔s∈L/\s.2.2∉ns:=by simp [am]
end
section
variable {P N:Type} [DecidableEq P] [DecidableEq N]
noncomputable def bK (L:bn P N) (p:P):bn P N:=L.filter fun s=>decide (p∉[s.1,s.2.1])
noncomputable def ey (n:Nat) (L:bn P N) (met:List P) (s:P×P×N):Option (Wlk P N):=
 (cY n (bK L s.1) s.2.1 met).map fun w=>(s.1::w.1,s.2.2::w.2)
noncomputable def gb (n:Nat) (L:bn P N) (s:P×P×N):Option (Wlk P N):=
 (cY n (am L [s.2.2]) s.2.1 [s.1]).map fun w=>(s.1::w.1,s.2.2::w.2)
noncomputable def eV (n:Nat) (L:bn P N) (met:List P):Option (Wlk P N):=match L.filter fun s=>decide (s.1∈met) with
 | []=>none
 | s::_=>match ey n L met s with
  | none=>gb n L s
  | some w=>some w
noncomputable def cQ (n:Nat):Nat->bn P N->List P->List (Wlk P N)->Option (List (Wlk P N))
 | 0,_,_,_=>none
 | f+1,L,met,acc=>if L=[] then some acc else match eV n L met with
  | none=>none
  | some e=>cQ n f (am L e.2) (met++e.1) (acc++[e])
theorem cz {L:bn P N} {p:P} {s:P×P×N}:s∈bK L p↔s∈L/\p≠s.1/\p≠s.2.1:=by simp [bK]
structure iS (L:bn P N) (r:P) (pt:P->Prop):Prop where
 sym:∀ s∈L,turned s∈L
 uniq:jN L
 ne:∀ s∈L,s.1≠s.2.1
 ptm:∀ s∈L,pt s.1
 conn:∀ Q:P->Prop,Q r->(∀ s∈L,Q s.1->Q s.2.1)->∀ p,pt p->Q p
 nobar:∀ s∈L,∀ Q:P->Prop,(∀ t∈L,t.2.2≠s.2.2->Q t.1->Q t.2.1)->Q s.2.1->Q s.1
structure Ear (L:bn P N) (met:List P) (used:List N) (e:Wlk P N):Prop where
 len:e.1.length=e.2.length+1
 pos:1<=e.2.length
 st:∀ s∈a0 e,s∈L/\s.1∈e.1/\s.2.1∈e.1
 nm:(a0 e).map pw=e.2
 nd:e.2.Nodup
 fresh:∀ x∈e.2,x∉used
 hd:∃ a,e.1.head?=some a/\a∈met
 lt:∃ b,e.1.getLast?=some b/\b∈met
 inn:∀ p∈e.1.tail.dropLast,p∉met
 kind:e.1.Nodup\/(e.1.tail.Nodup/\e.1.head?=e.1.getLast?/\2<=e.2.length)
structure Stt (L0:bn P N) (r:P) (met:List P) (used:List N):Prop where
 hr:r∈met
 hu:∀ s∈L0,s.2.2∈used->s.1∈met
theorem pA {p q:P} {ps:List P} {n:N} {ns:List N} (h:ps.head?=some q):a0 (p::ps,n::ns)=(p,q,n)::a0 (ps,ns):=by
 cases ps with
 | nil=>simp at h
 | cons x ps=>simp at h;subst h;rfl
theorem mE {ps:List P} {b:P} (nd:ps.Nodup) (hl:ps.getLast?=some b):∀ p∈ps.dropLast,p∈ps/\p≠b:=by
 obtain ⟨qs,rfl⟩:=List.getLast?_eq_some_iff.1 hl;intro p hp;simp at hp;rw [List.nodup_append] at nd;exact ⟨by simp [hp],fun e=>nd.2.2 p hp b (by simp) e⟩
theorem ear_of {L0 L:bn P N} {met:List P} {used:List N} {ends:List P} {M:bn P N} {s:P×P×N} {b:P} {ps:List P} {ns:List N}
  (hU:jN L0) (hL:∀ t∈L,t∈L0/\t.2.2∉used) (hM:∀ t∈M,t∈L) (hs:s∈L) (hm:s.1∈met) (hb:b∈met)
  (w:Sw M ends s.2.1 b ps ns) (hsn:s.2.2∉ns) (hin:∀ p∈ps,p≠b->p∉met)
  (hk:s.1∉ps\/(s.1=b/\s.2.1≠b)):Ear L0 met used (s.1::ps,s.2.2::ns):=by
 have hsi:a0 (s.1::ps,s.2.2::ns)=(s.1,s.2.1,s.2.2)::a0 (ps,ns):=pA w.head;have nd:=w.namesNodup (fun x hx y hy e=>hU x (hL x (hM x hx)).1 y (hL y (hM y hy)).1 e);refine ⟨by simp [w.len],by simp,?_,?_,?_,?_,⟨s.1,rfl,hm⟩,⟨b,?_,hb⟩,?_,?_⟩
 ·intro t ht;rw [hsi] at ht;simp only [List.mem_cons] at ht;rcases ht with rfl | ht
  ·exact ⟨(hL _ hs).1,by simp,by simp;exact .inr w.memA⟩
  ·have q:=w.step t ht;exact ⟨(hL t (hM t q.1)).1,by simp [q.2.1],by simp [q.2.2.1]⟩
 ·rw [hsi];simp only [List.map_cons];rw [show (a0 (ps,ns)).map pw=ns from w.names];rfl
 ·simp only [List.nodup_cons];exact ⟨hsn,nd⟩
 ·intro x hx;simp only [List.mem_cons] at hx;rcases hx with rfl | hx
  ·exact (hL s hs).2
  ·rw [<-w.names] at hx;obtain ⟨t,ht,rfl⟩:=List.mem_map.1 hx;exact (hL t (hM t (w.step t ht).1)).2
 ·show (s.1::ps).getLast?=some b;have:=w.last;cases ps with
  | nil=>simp at this
  | cons x ps=>rw [List.getLast?_cons_cons];exact this
 ·intro p hp;have:=mE w.nodup w.last p hp;exact hin p this.1 this.2
 ·rcases hk with hk | ⟨hk,hk2⟩
  ·left;simp only [List.nodup_cons];exact ⟨hk,w.nodup⟩
  ·right;refine ⟨w.nodup,?_,?_⟩
   ·show some s.1=(s.1::ps).getLast?;have:=w.last;cases ps with
    | nil=>simp at this
    | cons x ps=>rw [List.getLast?_cons_cons,this,hk]
   ·show 2<=(s.2.2::ns).length;have h1:=w.len;have h2:=w.head;have h3:=w.last;cases ps with
    | nil=>simp at h2
    | cons x ps=>
     cases ps with
     | nil=>simp at h2 h3;exact absurd (h2.symm.trans h3) hk2
     | cons y ps=>simp at h1 ⊢;omega
theorem rH {L0:bn P N} {r:P} {pt:P->Prop} (W:iS L0 r pt) {met:List P} {used:List N} (I:Stt L0 r met used) (h:am L0 used≠[]) :
  ∃ s rest,(am L0 used).filter (fun s=>decide (s.1∈met))=s::rest:=by
 cases hc:(am L0 used).filter (fun s=>decide (s.1∈met)) with
 | cons s rest=>exact ⟨s,rest,rfl⟩
 | nil=>
  exfalso;rw [List.filter_eq_nil_iff] at hc;have hno:∀ s∈L0,s.2.2∉used->s.1∉met:=fun s hs hu=>by simpa using hc s (aJ.2 ⟨hs,hu⟩)
  obtain ⟨t,ht⟩:=List.exists_mem_of_ne_nil _ h;rw [aJ] at ht;refine hno t ht.1 ht.2 (W.conn (fun p=>p∈met) I.hr ?_ t.1 (W.ptm t ht.1));intro s hs h1;by_cases hu:s.2.2∈used
  ·exact I.hu (turned s) (W.sym s hs) hu
  ·exact absurd h1 (hno s hs hu)
theorem fw {L:bn P N} {p:P}:(bK L p).length<=L.length:=List.length_filter_le _ _
theorem ez {L:bn P N} {ns:List N}:(am L ns).length<=L.length:=List.length_filter_le _ _
theorem way_ok {L0:bn P N} {met:List P} {used:List N} {s:P×P×N} {n:Nat} (hU:jN L0) (vj:∀ s∈L0,s.1≠s.2.1)
  (hs:s∈am L0 used) (hm:s.1∈met) (hn:L0.length+2<=n) :
  match ey n (am L0 used) met s with
  | some e=>Ear L0 met used e/\e.1.Nodup
  | none=>∃ S,Shut (bK (am L0 used) s.1) s.2.1 S/\∀ p∈S,p∉met:=by
 have hb:=kq (L:=bK (am L0 used) s.1) (a:=s.2.1) (ends:=met) (n:=n) (by have:=fw (L:=am L0 used) (p:=s.1);have:=ez (L:=L0) (ns:=used);omega);unfold ey;cases hq:cY n (bK (am L0 used) s.1) s.2.1 met with
 | none=>rw [hq] at hb;exact hb
 | some w=>
  rw [hq] at hb;obtain ⟨b,hb1,sw⟩:=hb;have hsp:s.1∉w.1:=by
   have key:∀ {b:P} {ps:List P} {ns:List N},Sw (bK (am L0 used) s.1) met s.2.1 b ps ns->s.1∉ps:=by
    intro b ps ns h
    induction h with
    | nil=>simp;exact vj s (aJ.1 hs).1
    | snoc h1 h2 _ _ ih=>simp;exact ⟨ih,(cz.1 h2).2.2⟩
   exact key sw
  have hsn:s.2.2∉w.2:=by
   intro h;rw [<-sw.names] at h;obtain ⟨t,ht,e1⟩:=List.mem_map.1 h;have q:=cz.1 (sw.step t ht).1;rcases hU s (aJ.1 hs).1 t (aJ.1 q.1).1 e1.symm with e2 | e2
   ·rw [e2] at q;exact q.2.1 rfl
   ·rw [e2] at q;exact q.2.2 rfl
  simp only [Option.map_some];refine ⟨ear_of hU (fun t ht=>aJ.1 ht) (fun t ht=>(cz.1 ht).1) hs hm hb1 sw hsn ?_ (.inl hsp),?_⟩
  ·intro p hp hpb;rcases sw.inner p hp with h | h
   ·exact absurd h hpb
   ·exact h
  ·simp only [List.nodup_cons];exact ⟨hsp,sw.nodup⟩
theorem ring_ok {L0:bn P N} {r:P} {pt:P->Prop} (W:iS L0 r pt) {met:List P} {used:List N} (I:Stt L0 r met used) {s:P×P×N} {n:Nat}
  (hs:s∈am L0 used) (hm:s.1∈met) (hn:L0.length+2<=n) {S:List P} (hS:Shut (bK (am L0 used) s.1) s.2.1 S) (hSm:∀ p∈S,p∉met) :
  ∃ e,gb n (am L0 used) s=some e/\Ear L0 met used e/\(e.1.tail.Nodup/\e.1.head?=e.1.getLast?/\2<=e.2.length):=by
 have hb:=kq (L:=am (am L0 used) [s.2.2]) (a:=s.2.1) (ends:=[s.1]) (n:=n) (by have:=ez (L:=am L0 used) (ns:=[s.2.2]);have:=ez (L:=L0) (ns:=used);omega);have hs0:=aJ.1 hs;have vj:=W.ne s hs0.1;unfold gb;cases hq:cY n (am (am L0 used) [s.2.2]) s.2.1 [s.1] with
 | none=>
  rw [hq] at hb;obtain ⟨S',t1,t2⟩:=hb;exfalso;have:=W.nobar s hs0.1 (fun p=>p∈S/\p∈S') ?_ ⟨hS.ha,t1.ha⟩
  ·exact t2 s.1 this.2 (by simp)
  ·intro t ht hn ⟨h1,h2⟩;have hu:t.2.2∉used:=fun hu=>hSm t.1 h1 (I.hu t ht hu);have h3:t.2.1∈S':=t1.cl t (aJ.2 ⟨aJ.2 ⟨ht,hu⟩,by simpa using hn⟩) h2;have h4:s.1≠t.2.1:=fun e=>t2 _ h3 (by simp [e]);have h5:s.1≠t.1:=fun e=>t2 _ h2 (by simp [e]);exact ⟨hS.cl t (cz.2 ⟨aJ.2 ⟨ht,hu⟩,h5,h4⟩) h1,h3⟩
 | some w=>
  rw [hq] at hb;obtain ⟨b,hb1,sw⟩:=hb;simp at hb1;subst hb1;have key:∀ {c:P} {ps:List P} {ns:List N},Sw (am (am L0 used) [s.2.2]) [s.1] s.2.1 c ps ns->∀ p∈ps,p≠s.1->p∈S:=by
   intro c ps ns h
   induction h with
   | nil=>intro p hp _;simp at hp;rw [hp];exact hS.ha
   | @snoc b ps ns c n h1 h2 h3 h4 ih=>
    intro p hp hps;simp at hp;rcases hp with hp | hp
    ·exact ih p hp hps
    ·subst hp;simp at h4;exact hS.cl (b,p,n) (cz.2 ⟨(aJ.1 h2).1,fun e=>h4 e.symm,fun e=>hps e.symm⟩) (ih b h1.memB h4)
  have hsn:s.2.2∉w.2:=by
   intro h;rw [<-sw.names] at h;obtain ⟨t,ht,e1⟩:=List.mem_map.1 h;have q:=aJ.1 (sw.step t ht).1;exact q.2 (by simp [e1])
  have E:=ear_of (met:=met) (used:=used) W.uniq (fun t ht=>aJ.1 ht) (fun t ht=>(aJ.1 ht).1) hs hm hm sw hsn (fun p hp hpb=>hSm p (key sw p hp hpb)) (.inr ⟨rfl,fun e=>vj e.symm⟩);refine ⟨_,rfl,E,?_⟩;refine ⟨sw.nodup,?_,?_⟩
  ·show some s.1=(s.1::w.1).getLast?;have:=sw.last;cases hw:w.1 with
   | nil=>rw [hw] at this;simp at this
   | cons x ps=>rw [List.getLast?_cons_cons,<-hw,this]
  ·have h1:=sw.len;have h2:=sw.head;have h3:=sw.last;show 2<=(s.2.2::w.2).length;cases hw:w.1 with
   | nil=>rw [hw] at h2;simp at h2
   | cons x ps=>
    rw [hw] at h1 h2 h3;cases ps with
    | nil=>simp at h2 h3;exact absurd (h3.symm.trans h2) vj
    | cons y ps=>simp at h1 ⊢;omega
theorem next_ok {L0:bn P N} {r:P} {pt:P->Prop} (W:iS L0 r pt) {met:List P} {used:List N} (I:Stt L0 r met used) {n:Nat}
  (h:am L0 used≠[]) (hn:L0.length+2<=n):∃ e,eV n (am L0 used) met=some e/\Ear L0 met used e:=by
 obtain ⟨s,rest,hf⟩:=rH W I h;have hs:s∈am L0 used/\decide (s.1∈met)=true:=(List.mem_filter (p:=fun s:P×P×N=>decide (s.1∈met))).1 (by rw [hf];simp);have hm:s.1∈met:=by simpa using hs.2
 unfold eV;rw [hf];have hw:=way_ok (n:=n) W.uniq W.ne hs.1 hm hn;simp only;cases hq:ey n (am L0 used) met s with
 | some e=>rw [hq] at hw;exact ⟨e,rfl,hw.1⟩
 | none=>
  rw [hq] at hw;obtain ⟨S,s1,s2⟩:=hw;obtain ⟨e,e1,e2,_⟩:=ring_ok W I hs.1 hm hn s1 s2;exact ⟨e,e1,e2⟩
noncomputable def aA (L:bn P N):List P->List N->List (Wlk P N)->Prop
 | _,_,[]=>True
 | met,used,e::es=>Ear L met used e/\aA L (met++e.1) (used++e.2) es
theorem Stt.next {L0:bn P N} {r:P} {pt:P->Prop} (W:iS L0 r pt) {met:List P} {used:List N} (I:Stt L0 r met used) {e:Wlk P N} (h:Ear L0 met used e) :
  Stt L0 r (met++e.1) (used++e.2):=by
 refine ⟨by simp [I.hr],?_⟩;intro s hs hu;rw [List.mem_append] at hu ⊢;rcases hu with hu | hu
 ·exact .inl (I.hu s hs hu)
 ·right;rw [<-h.nm] at hu;obtain ⟨t,ht,e1⟩:=List.mem_map.1 hu;have q:=h.st t ht;rcases W.uniq t q.1 s hs e1 with e2 | e2
  ·rw [e2];exact q.2.1
  ·rw [e2];exact q.2.2
theorem but_but {L:bn P N} {a b:List N}:am (am L a) b=am L (a++b):=by
 unfold am;rw [List.filter_filter];congr 1;funext s;by_cases h1:s.2.2∈a <;> by_cases h2:s.2.2∈b <;> simp [h1,h2]
theorem but_lt {L:bn P N} {used:List N} {e:Wlk P N} {met:List P} (h:Ear L met used e):(am L (used++e.2)).length<(am L used).length:=by
 rw [<-but_but];have hp:=h.pos;cases hc:e.2 with
 | nil=>rw [hc] at hp;simp at hp
 | cons x xs=>
  have hx:x∈(a0 e).map pw:=by rw [h.nm,hc];simp
  obtain ⟨t,ht,e1⟩:=List.mem_map.1 hx;have hxu:x∉used:=h.fresh x (by rw [hc];simp);have:t∈am L used:=aJ.2 ⟨(h.st t ht).1,by rw [show t.2.2=x from e1];exact hxu⟩;exact List.length_filter_lt_length_iff_exists.2 ⟨t,this,by simp [show t.2.2=x from e1]⟩
theorem ears_ok {L0:bn P N} {r:P} {pt:P->Prop} (W:iS L0 r pt) {n:Nat} (hn:L0.length+2<=n):∀ (f:Nat) (met:List P) (used:List N) (acc:List (Wlk P N)),
  Stt L0 r met used->(am L0 used).length<f->
  ∃ es,cQ n f (am L0 used) met acc=some (acc++es)/\aA L0 met used es/\am L0 (used++es.flatMap (·.2))=[]
 | 0,met,used,acc,I,hf=>by omega
 | f+1,met,used,acc,I,hf=>by
  unfold cQ;split
  ·rename_i h;exact ⟨[],by simp,trivial,by simpa using h⟩
  ·rename_i h;obtain ⟨e,e1,e2⟩:=next_ok W I h hn;rw [e1];simp only;obtain ⟨es,f1,f2,f3⟩:=ears_ok W hn f (met++e.1) (used++e.2) (acc++[e]) (I.next W e2) (by have:=but_lt e2;omega);rw [but_but,f1];exact ⟨e::es,by simp,⟨e2,f2⟩,by simpa using f3⟩
end
section
variable {P N:Type} [DecidableEq P] [DecidableEq N]
theorem Ear.ring {L:bn P N} {r:P} {used:List N} {e:Wlk P N} (h:Ear L [r] used e):e.1.tail.Nodup/\e.1.head?=e.1.getLast?/\2<=e.2.length:=by
 rcases h.kind with k | k
 ·exfalso;obtain ⟨a,a1,a2⟩:=h.hd;obtain ⟨b,b1,b2⟩:=h.lt;simp at a2 b2;subst a2;subst b2;have hl:=h.len;have hp:=h.pos;cases he:e.1 with
  | nil=>rw [he] at a1;simp at a1
  | cons x xs=>cases xs with
   | nil=>rw [he] at hl;simp only [List.length_singleton] at hl;omega
   | cons y ys=>
    rw [he] at a1 b1 k;simp at a1;subst a1;rw [List.getLast?_cons_cons] at b1;have:=List.mem_of_getLast? b1;simp only [List.nodup_cons] at k;exact k.1 this
 ·exact k
theorem aA.names {L:bn P N}:∀ {es:List (Wlk P N)} {met:List P} {used:List N},aA L met used es->(es.flatMap (·.2)).Nodup/\∀ x∈es.flatMap (·.2),x∉used
 | [],_,_,_=>by simp
 | e::es,met,used,⟨h1,h2⟩=>by
  obtain ⟨i1,i2⟩:=aA.names h2;simp only [List.flatMap_cons];rw [List.nodup_append];refine ⟨⟨h1.nd,i1,?_⟩,?_⟩
  ·intro a ha b hb e1;subst e1;exact i2 a hb (by simp [ha])
  ·intro x hx;rw [List.mem_append] at hx;rcases hx with hx | hx
   ·exact h1.fresh x hx
   ·intro hu;exact i2 x hx (by simp [hu])
theorem aA.steps {L:bn P N}:∀ {es:List (Wlk P N)} {met:List P} {used:List N},aA L met used es->∀ s∈es.flatMap a0,s∈L
 | [],_,_,_=>by simp
 | e::es,met,used,⟨h1,h2⟩=>by
  intro s hs;simp only [List.flatMap_cons,List.mem_append] at hs;rcases hs with hs | hs
  ·exact (h1.st s hs).1
  ·exact aA.steps h2 s hs
theorem aA.namesOf {L:bn P N}:∀ {es:List (Wlk P N)} {met:List P} {used:List N},aA L met used es->(es.flatMap a0).map pw=es.flatMap (·.2)
 | [],_,_,_=>by simp
 | e::es,met,used,⟨h1,h2⟩=>by
  simp only [List.flatMap_cons,List.map_append];rw [h1.nm,aA.namesOf h2]
theorem aA.stt {L:bn P N} {r:P} {pt:P->Prop} (W:iS L r pt):∀ {es:List (Wlk P N)} {met:List P} {used:List N},aA L met used es->Stt L r met used->
  Stt L r (met++es.flatMap (·.1)) (used++es.flatMap (·.2))
 | [],_,_,_,I=>by simpa using I
 | e::es,met,used,⟨h1,h2⟩,I=>by
  have:=aA.stt W h2 (I.next W h1);simpa using this
theorem qz {L:bn P N} {r:P} {pt:P->Prop} (W:iS L r pt) {es:List (Wlk P N)} (h:aA L [r] [] es) (hu:am L (es.flatMap (·.2))=[]) :
  (∀ s∈L,s.2.2∈es.flatMap (·.2))/\∀ p,pt p->p∈r::es.flatMap (·.1):=by
 have h1:∀ s∈L,s.2.2∈es.flatMap (·.2):=by
  intro s hs;apply Classical.byContradiction;intro hn;have:s∈am L (es.flatMap (·.2)):=aJ.2 ⟨hs,hn⟩;rw [hu] at this;simp at this
 refine ⟨h1,?_⟩;have I:=aA.stt W h ⟨by simp,by simp⟩;intro p hp;refine W.conn (fun p=>p∈r::es.flatMap (·.1)) (by simp) ?_ p hp;intro s hs _;have:=I.hu (turned s) (W.sym s hs) (by rw [List.nil_append];exact h1 s hs);simpa [turned] using this
noncomputable def NoJoint (L:bn P N) (pt:P->Prop):Prop:=∀ v,∀ Q:P->Prop,(∀ t∈L,t.1≠v->t.2.1≠v->Q t.1->Q t.2.1)->∀ x y,pt x->pt y->x≠v->y≠v->Q x->Q y
theorem nobar_of {L:bn P N} {pt:P->Prop} (U:jN L) (sym:∀ s∈L,turned s∈L) (ne:∀ s∈L,s.1≠s.2.1) (hpt:∀ s∈L,pt s.1) (J:NoJoint L pt)
  (third:∀ u v,∃ z,pt z/\z≠u/\z≠v):∀ s∈L,∀ Q:P->Prop,(∀ t∈L,t.2.2≠s.2.2->Q t.1->Q t.2.1)->Q s.2.1->Q s.1:=by
 intro s hs Q hQ h;obtain ⟨z,z1,z2,z3⟩:=third s.1 s.2.1;have p1:=hpt s hs;have p2:pt s.2.1:=hpt (turned s) (sym s hs);have hz:Q z:=by
  refine J s.1 Q ?_ s.2.1 z p2 z1 (fun e=>ne s hs e.symm) z2 h;intro t ht t1 t2 h3;refine hQ t ht ?_ h3;intro e;rcases U s hs t ht e.symm with e2 | e2
  ·rw [e2] at t1;exact t1 rfl
  ·rw [e2] at t2;exact t2 rfl
 refine J s.2.1 Q ?_ z s.1 z1 p1 z3 (ne s hs) hz;intro t ht t1 t2 h3;refine hQ t ht ?_ h3;intro e;rcases U s hs t ht e.symm with e2 | e2
 ·rw [e2] at t2;exact t2 rfl
 ·rw [e2] at t1;exact t1 rfl
theorem qA {L0:bn P N} {r:P} {pt:P->Prop} (W:iS L0 r pt) {n f:Nat} (hn:L0.length+2<=n) (hf:L0.length<f) (h0:L0≠[]) :
  ∃ e es,cQ n f L0 [r] []=some (e::es)/\aA L0 [r] [] (e::es)/\am L0 ((e::es).flatMap (·.2))=[]:=by
 have hb:am L0 []=L0:=by simp [am]
 obtain ⟨es,f1,f2,f3⟩:=ears_ok W hn f [r] [] [] ⟨by simp,by simp⟩ (by rw [hb];exact hf);rw [hb] at f1;simp at f1 f3;cases es with
 | nil=>simp [hb] at f3;exact absurd f3 h0
 | cons e es=>exact ⟨e,es,f1,f2,by simpa using f3⟩
end
section
variable {P:Type} [DecidableEq P]
noncomputable def eO (p:P) (f:List P) (s:P×P):List P:=if s.1=p/\s.2∉f then f++[s.2] else f
noncomputable def ia (L:List (P×P)) (p:P) (f:List P):List P:=L.foldl (eO p) f
noncomputable def kP (L:List (P×P)):Nat->Nat->List P->List P
 | 0,_,f=>f
 | n+1,k,f=>match f[k]? with
  | none=>f
  | some p=>kP L n (k+1) (ia L p f)
noncomputable def reach (n:Nat) (L:List (P×P)) (a:P):List P:=kP L n 0 [a]
structure RInv (L:List (P×P)) (a:P) (f:List P):Prop where
 nd:f.Nodup
 ha:a∈f
 sub:∀ p∈f,p=a\/∃ s∈L,s.2=p
 min:∀ Q:P->Prop,Q a->(∀ s∈L,Q s.1->Q s.2)->∀ p∈f,Q p
theorem kr {L0:List (P×P)} {a p:P}:∀ (L:List (P×P)) (f:List P),(∀ s∈L,s∈L0)->RInv L0 a f->p∈f->
  RInv L0 a (ia L p f)/\(∃ e,ia L p f=f++e)/\∀ s∈L,s.1=p->s.2∈ia L p f
 | [],f,_,I,_=>⟨I,⟨[],by simp [ia]⟩,by simp⟩
 | s::L,f,hL,I,hp=>by
  have e:ia (s::L) p f=ia L p (eO p f s):=rfl;have h1:RInv L0 a (eO p f s)/\(∃ e,eO p f s=f++e)/\(s.1=p->s.2∈eO p f s):=by
   unfold eO;split
   ·rename_i h;refine ⟨⟨?_,by simp [I.ha],?_,?_⟩,⟨_,rfl⟩,by simp⟩
    ·rw [List.nodup_append];refine ⟨I.nd,by simp,?_⟩;intro x hx y hy exy;simp at hy;subst hy;subst exy;exact h.2 hx
    ·intro q hq;simp at hq;rcases hq with hq | hq
     ·exact I.sub q hq
     ·exact .inr ⟨s,hL s (by simp),hq.symm⟩
    ·intro Q q1 q2 q hq;simp at hq;rcases hq with hq | hq
     ·exact I.min Q q1 q2 q hq
     ·rw [hq];exact q2 s (hL s (by simp)) (by rw [h.1];exact I.min Q q1 q2 p hp)
   ·rename_i h;refine ⟨I,⟨[],by simp⟩,?_⟩;intro e1;simp [e1] at h;exact h
  obtain ⟨i1,⟨e1,j1⟩,i3⟩:=h1;obtain ⟨k1,⟨f1,l1⟩,k3⟩:=kr (p:=p) L (eO p f s) (fun t ht=>hL t (by simp [ht])) i1 (by rw [j1];simp [hp]);rw [e];refine ⟨k1,⟨e1++f1,by rw [l1,j1];simp⟩,?_⟩;intro t ht et;rw [List.mem_cons] at ht;rcases ht with rfl | ht
  ·rw [l1];exact List.mem_append.2 (.inl (i3 et))
  ·exact k3 t ht et
structure lK (L:List (P×P)) (a:P) (f:List P):Prop extends RInv L a f where
 cl:∀ s∈L,s.1∈f->s.2∈f
theorem qB {L:List (P×P)} {a:P}:∀ (n k:Nat) (f:List P),RInv L a f->(∀ i,i<k->∀ p,f[i]?=some p->∀ s∈L,s.1=p->s.2∈f)->k<=f.length->L.length+2<=n+k->
  lK L a (kP L n k f)
 | 0,k,f,I,_,hk,hn=>by
  have h2:=List.Nodup.length_le_of_subset (l₂:=a::L.map (·.2)) I.nd (by
   intro p hp;rcases I.sub p hp with e | ⟨s,hs,e⟩
   ·simp [e]
   ·simp only [List.mem_cons,List.mem_map];exact .inr ⟨s,hs,e⟩)
  simp at h2;omega
 | n+1,k,f,I,hd,hk,hn=>by
  unfold kP;split
  ·rename_i h;rw [List.getElem?_eq_none_iff] at h;refine { I with cl:=?_ };intro s hs hp;obtain ⟨i,hi,e⟩:=List.mem_iff_getElem.1 hp;exact hd i (by omega) s.1 (by simp [e,hi]) s hs rfl
  ·rename_i p h;have hk2:k<f.length:=by
    rcases Nat.lt_or_ge k f.length with h' | h'
    ·exact h'
    ·rw [List.getElem?_eq_none h'] at h;simp at h
   obtain ⟨i1,⟨e1,j1⟩,i3⟩:=kr (p:=p) L f (fun _ h=>h) I (List.mem_of_getElem? h);apply qB n (k+1) _ i1
   ·intro i hi q hq;rw [j1,List.getElem?_append_left (by omega)] at hq;by_cases hik:i=k
    ·subst hik;rw [h] at hq;simp at hq;subst hq;exact i3
    ·intro s hs e2;rw [j1];exact List.mem_append.2 (.inl (hd i (by omega) q hq s hs e2))
   ·rw [j1];simp;omega
   ·omega
theorem jO {L:List (P×P)} {a:P} {n:Nat} (h:L.length+2<=n):lK L a (reach n L a):=by
 apply qB
 ·exact ⟨by simp,by simp,by simp,by intro Q h _ p hp;simp at hp;rw [hp];exact h⟩
 ·intro i hi;omega
 ·simp
 ·omega
theorem reach_all {L:List (P×P)} {a:P} {n:Nat} (h:L.length+2<=n) {pts:List P} (hp:pts.Nodup) (hs:∀ p∈reach n L a,p∈pts) (hl:pts.length<=(reach n L a).length) :
  ∀ Q:P->Prop,Q a->(∀ s∈L,Q s.1->Q s.2)->∀ p∈pts,Q p:=by
 have R:=jO (a:=a) h;intro Q q1 q2 p hpp;apply R.min Q q1 q2;apply Classical.byContradiction;intro hn;have:=List.Nodup.length_le_of_subset (l₁:=p::reach n L a) (l₂:=pts) (by simp only [List.nodup_cons];exact ⟨hn,R.nd⟩) (by
  intro x hx;rw [List.mem_cons] at hx;rcases hx with rfl | hx
  ·exact hpp
  ·exact hs x hx)
 simp at this;omega
end
end Mx
end
section
namespace Ew
open PySem PySem.Spec L2
structure Enc (α:Type) [DecidableEq α] where
 e:α->D
 k:Nat
 ok:∀ a,(e a).plain=true/\(e a).py.canLay0=true/\(e a).py.depth<=k
 eq:∀ a b,eqP (e a) (e b)=decide (a=b)
noncomputable def Enc.int:Enc Int:=⟨.int,1,fun i=>by
 obtain ⟨a,b,c⟩:=bP (eU i);exact ⟨a,b,by unfold D.py PyData.depth;omega⟩,lH⟩
section
variable {α β:Type} [DecidableEq α] [DecidableEq β]
theorem eqP_tup3 (a b c a' b' c':D):eqP (.tup [a,b,c]) (.tup [a',b',c'])=(eqP a a'&&(eqP b b'&&eqP c c')):=by
 simp only [eqP,D.py,pys,PyData.eqv,PyData.eqvAll,Bool.and_true]
theorem eqP_tup2 (a b a' b':D):eqP (.tup [a,b]) (.tup [a',b'])=(eqP a a'&&eqP b b'):=by
 simp only [eqP,D.py,pys,PyData.eqv,PyData.eqvAll,Bool.and_true]
theorem kQ {k:Nat} {ds:List D} (h:∀ d∈ds,d.py.depth<=k):PyData.depthAll (pys ds)<=k:=hX fun d hd=>by
 rw [gu] at hd;obtain ⟨e,he,rfl⟩:=List.mem_map.mp hd;exact h e he
theorem ok_tup {k:Nat} {ds:List D} (h:∀ d∈ds,d.plain=true/\d.py.canLay0=true/\d.py.depth<=k):(D.tup ds).plain=true/\(D.tup ds).py.canLay0=true/\(D.tup ds).py.depth<=k+1:=by
 refine ⟨?_,?_,?_⟩
 ·unfold D.plain;rw [jc];exact List.all_eq_true.mpr fun d hd=>(h d hd).1
 ·unfold D.py PyData.canLay0;rw [fM,gu];exact List.all_eq_true.mpr fun d hd=>by
   obtain ⟨e,he,rfl⟩:=List.mem_map.mp hd;exact (h e he).2.1
 ·unfold D.py PyData.depth;have:=kQ (k:=k) fun d hd=>(h d hd).2.2;omega
noncomputable def Enc.tri (A:Enc α) (B:Enc β):Enc (α×α×β):=⟨fun s=>.tup [A.e s.1,A.e s.2.1,B.e s.2.2],max A.k B.k+1,fun s=>ok_tup fun d hd=>by
 simp at hd;rcases hd with rfl | rfl | rfl
 ·have:=A.ok s.1;exact ⟨this.1,this.2.1,by omega⟩
 ·have:=A.ok s.2.1;exact ⟨this.1,this.2.1,by omega⟩
 ·have:=B.ok s.2.2;exact ⟨this.1,this.2.1,by omega⟩,fun a b=>by
 rw [eqP_tup3,A.eq,A.eq,B.eq];rcases a with ⟨a1,a2,a3⟩
 rcases b with ⟨b1,b2,b3⟩
 simp⟩
noncomputable def Enc.par (A:Enc α) (B:Enc β):Enc (α×β):=⟨fun s=>.tup [A.e s.1,B.e s.2],max A.k B.k+1,fun s=>ok_tup fun d hd=>by
 simp at hd;rcases hd with rfl | rfl
 ·have:=A.ok s.1;exact ⟨this.1,this.2.1,by omega⟩
 ·have:=B.ok s.2;exact ⟨this.1,this.2.1,by omega⟩,fun a b=>by
 rw [eqP_tup2,A.eq,B.eq];rcases a with ⟨a1,a2⟩
 rcases b with ⟨b1,b2⟩
 simp⟩
variable (A:Enc α)
theorem Enc.okD (h:A.k<=16) (a:α):Ew.okD (A.e a)=true:=by
 obtain ⟨p,q,r⟩:=A.ok a;unfold Ew.okD;rw [p,q];simp;omega
theorem Enc.okL (h:A.k<=15) (as:List α):Ew.okD (.lst (as.map A.e))=true:=ml fun d hd=>by
 obtain ⟨a,_,rfl⟩:=List.mem_map.mp hd;obtain ⟨p,q,r⟩:=A.ok a;exact ⟨p,q,by omega⟩
theorem Enc.oEq (h:A.k<=15) (a b:α):Ew.oEq (A.e a) (A.e b)=some (.sh (.bl (decide (a=b)))):=by
 unfold Ew.oEq;rw [if_pos ⟨A.okD (by omega) a,A.okD (by omega) b⟩,A.eq]
theorem Enc.oNe (h:A.k<=15) (a b:α):Ew.oNe (A.e a) (A.e b)=some (.sh (.bl (!decide (a=b)))):=by
 unfold Ew.oNe;rw [if_pos ⟨A.okD (by omega) a,A.okD (by omega) b⟩,A.eq]
theorem Enc.any (a:α) (as:List α):((as.map A.e).any fun y=>eqP y (A.e a))=decide (a∈as):=by
 induction as with
 | nil=>rfl
 | cons b as ih=>
  simp only [List.map_cons,List.any_cons,ih,A.eq];by_cases h:b=a
  ·subst h;simp
  ·have h2:¬a=b:=fun e=>h e.symm;simp [h,h2]
theorem Enc.oIn (h:A.k<=15) (a:α) (as:List α):Ew.oIn (A.e a) (.lst (as.map A.e))=some (.sh (.bl (decide (a∈as)))):=by
 show (if Ew.okD (A.e a)=true/\Ew.okD (D.lst (List.map A.e as))=true then some (R.sh (D.bl ((as.map A.e).any fun y=>eqP y (A.e a)))) else none)=_;rw [if_pos ⟨A.okD (by omega) a,A.okL h as⟩,A.any]
theorem Enc.oNotIn (h:A.k<=15) (a:α) (as:List α):Ew.oNotIn (A.e a) (.lst (as.map A.e))=some (.sh (.bl (!decide (a∈as)))):=by
 show (if Ew.okD (A.e a)=true/\Ew.okD (D.lst (List.map A.e as))=true then some (R.sh (D.bl (!(as.map A.e).any fun y=>eqP y (A.e a)))) else none)=_;rw [if_pos ⟨A.okD (by omega) a,A.okL h as⟩,A.any]
theorem Enc.oEqL (h:A.k<=15) (as bs:List α):Ew.oEq (.lst (as.map A.e)) (.lst (bs.map A.e))=some (.sh (.bl (decide (as=bs)))):=by
 unfold Ew.oEq;rw [if_pos ⟨A.okL h as,A.okL h bs⟩];congr 3;have key:∀ as bs:List α,PyData.eqvAll (pys (as.map A.e)) (pys (bs.map A.e))=decide (as=bs):=by
  intro as
  induction as with
  | nil=>intro bs;cases bs <;> simp [pys,PyData.eqvAll]
  | cons a as ih=>
   intro bs;cases bs with
   | nil=>simp [pys,PyData.eqvAll]
   | cons b bs=>
    simp only [List.map_cons,pys,PyData.eqvAll,ih];have:=A.eq a b;unfold eqP at this;rw [this];simp
 unfold eqP D.py PyData.eqv;exact key as bs
end
theorem pB {α:Type} (xs:List α):atI xs (-1)=xs.getLast?:=by
 unfold atI ixN;cases xs with
 | nil=>simp
 | cons x xs=>
  have h1:¬((0:Int)<=-1):=by omega
  have h2:-((x::xs).length:Int)<=-1:=by simp;omega
  rw [if_neg h1,if_pos h2];have e:((-1:Int)+((x::xs).length:Nat)).toNat=(x::xs).length-1:=by simp;omega
  show (x::xs)[_]?=_;rw [e,List.getLast?_eq_getElem?]
theorem jh {α:Type} (xs:List α) (i:Nat):atI xs (i:Int)=xs[i]?:=by
 unfold atI ixN;rw [if_pos (by omega)];by_cases h:i<xs.length
 ·rw [if_pos (by omega)];rfl
 ·rw [if_neg (by omega),List.getElem?_eq_none (by omega)];rfl
theorem dz {α:Type} (xs:List α):atI xs 0=xs[0]?:=jh xs 0
theorem eH {α:Type} (xs:List α):atI xs 1=xs[1]?:=jh xs 1
theorem atI_2 {α:Type} (xs:List α):atI xs 2=xs[2]?:=jh xs 2
theorem getLast?_map' {α β:Type} (f:α->β) (xs:List α):(xs.map f).getLast?=xs.getLast?.map f:=by
 rw [List.getLast?_eq_getElem?,List.getLast?_eq_getElem?,List.getElem?_map,uk]
end Ew
end
section
set_option maxHeartbeats 4000000
namespace Pg
open PySem PySem.Spec L2 Ew
noncomputable def top (i:Nat):Stmt:=PySem.Challenge.pw_earworks_k01_whole_ears.main.body.getD i (.Pass ⟨0,0,0,0⟩)
structure CA where
 Answer:Addr
 Bar:Addr
 Ears:Addr
 Joint:Addr
 Turned:Addr
 Web:Addr
noncomputable def e7 (c:CA):D->Option Bool:=isT [(c.Bar,true),(c.Ears,true),(c.Joint,true),(c.Turned,true),(c.Web,false)]
noncomputable def ib (c:CA):D->Option Bool:=isT [(c.Bar,true),(c.Ears,false),(c.Joint,false),(c.Turned,false),(c.Web,false)]
noncomputable def eW (c:CA):D->Option Bool:=isT [(c.Bar,false),(c.Ears,true),(c.Joint,false),(c.Turned,false),(c.Web,false)]
noncomputable def gc (c:CA):D->Option Bool:=isT [(c.Bar,false),(c.Ears,false),(c.Joint,true),(c.Turned,false),(c.Web,false)]
noncomputable def e8 (c:CA):D->Option Bool:=isT [(c.Bar,false),(c.Ears,false),(c.Joint,false),(c.Turned,true),(c.Web,false)]
noncomputable def mG (c:CA):D->Option Bool:=isT [(c.Bar,false),(c.Ears,false),(c.Joint,false),(c.Turned,false),(c.Web,true)]
structure Txt (K:Frag) (mg:Str->Option Value) (c:CA) where
 d1_:Cd K mg c.Answer "Answer"
 s_:Cd K mg c.Bar "Bar"
 p_:Cd K mg c.Ears "Ears"
 u_:Cd K mg c.Joint "Joint"
 f1_:Cd K mg c.Turned "Turned"
 f_:Cd K mg c.Web "Web"
 t_:NoAttr K c.Bar "points"
 q_:NoAttr K c.Ears "ears"
 w_:NoAttr K c.Joint "others"
 v_:NoAttr K c.Joint "point"
 l_:NoAttr K c.Web "pairs"
 g_:NoAttr K c.Web "points"
 m_:mg "all" = none
 o_:mg "any" = none
 a_:mg "bool" = none
 n_:mg "enumerate" = none
 c_:mg "int" = none
 b_:mg "isinstance" = none
 d_:mg "len" = none
 h_:mg "list" = none
 j_:mg "max" = none
 k_:mg "min" = none
 i_:mg "range" = none
 e_:mg "set" = none
 r_:mg "sorted" = none
 x_:mg "tuple" = none
 y_:∃ t,mg "MOST_POINTS" = some (.int 8 t)
 z_:∃ t,mg "MOST_TIES" = some (.int 14 t)
 i1_:∀ fs,TyD K (.obj c.Bar fs) (.ref c.Bar)
 j1_:∀ fs,TyD K (.obj c.Ears fs) (.ref c.Ears)
 k1_:∀ fs,TyD K (.obj c.Joint fs) (.ref c.Joint)
 l1_:∀ fs,TyD K (.obj c.Turned fs) (.ref c.Turned)
 m1_:∀ fs,TyD K (.obj c.Web fs) (.ref c.Web)
 n1_:kitOne K (.ref c.Bar) (.ref c.Answer)=some true
 o1_:kitOne K (.ref c.Ears) (.ref c.Answer)=some true
 p1_:kitOne K (.ref c.Joint) (.ref c.Answer)=some true
 q1_:kitOne K (.ref c.Turned) (.ref c.Answer)=some true
 r1_:kitOne K (.ref c.Web) (.ref c.Answer)=some false
 s1_:kitOne K (.ref c.Ears) (.ref c.Bar)=some false
 t1_:kitOne K (.ref c.Joint) (.ref c.Bar)=some false
 u1_:kitOne K (.ref c.Turned) (.ref c.Bar)=some false
 v1_:kitOne K (.ref c.Web) (.ref c.Bar)=some false
 w1_:kitOne K (.ref c.Bar) (.ref c.Ears)=some false
 x1_:kitOne K (.ref c.Joint) (.ref c.Ears)=some false
 y1_:kitOne K (.ref c.Turned) (.ref c.Ears)=some false
 z1_:kitOne K (.ref c.Web) (.ref c.Ears)=some false
 a2_:kitOne K (.ref c.Bar) (.ref c.Joint)=some false
 b2_:kitOne K (.ref c.Ears) (.ref c.Joint)=some false
 c2_:kitOne K (.ref c.Turned) (.ref c.Joint)=some false
 d2_:kitOne K (.ref c.Web) (.ref c.Joint)=some false
 e2_:kitOne K (.ref c.Bar) (.ref c.Turned)=some false
 f2_:kitOne K (.ref c.Ears) (.ref c.Turned)=some false
 g2_:kitOne K (.ref c.Joint) (.ref c.Turned)=some false
 h2_:kitOne K (.ref c.Web) (.ref c.Turned)=some false
 i2_:kitOne K (.ref c.Bar) (.ref c.Web)=some false
 j2_:kitOne K (.ref c.Ears) (.ref c.Web)=some false
 k2_:kitOne K (.ref c.Joint) (.ref c.Web)=some false
 l2_:kitOne K (.ref c.Turned) (.ref c.Web)=some false
 ne:c.Bar≠c.Ears/\c.Bar≠c.Joint/\c.Bar≠c.Turned/\c.Bar≠c.Web/\c.Ears≠c.Joint/\c.Ears≠c.Turned/\c.Ears≠c.Web/\c.Joint≠c.Turned/\c.Joint≠c.Web/\c.Turned≠c.Web
 n2_:Fd K mg "is_number" (top 2) ["value"]
 o2_:Fd K mg "all_differ" (top 3) ["numbers"]
 p2_:Fd K mg "has_point" (top 4) ["web", "point"]
 q2_:Fd K mg "all_points" (top 5) ["web"]
 r2_:Fd K mg "is_point_set" (top 6) ["web", "points"]
 s2_:Fd K mg "tie_between" (top 7) ["one", "other"]
 t2_:Md K c.Web "ties" "Web.ties" (inClass (top 41) 1) ["self"]
 u2_:Fd K mg "points_left_to" (top 9) ["web", "points"]
 v2_:Fd K mg "reached" (top 12) ["begin", "steps"]
 w2_:Fd K mg "is_walk" (top 13) ["web", "walk"]
 x2_:Fd K mg "is_way" (top 14) ["web", "walk"]
 y2_:Fd K mg "is_ring" (top 15) ["web", "walk"]
 z2_:Fd K mg "copied_walks" (top 17) ["walks"]
 a3_:Fd K mg "places_of" (top 18) ["walks"]
 b3_:Fd K mg "is_further_ear" (top 19) ["web", "ear", "ahead"]
 c3_:Ni K c.Ears "Ears.__init__" (inClass (top 21) 0) ["self", "ears"]
 d3_:Md K c.Ears "shows" "Ears.shows" (inClass (top 21) 1) ["self", "web"]
 e3_:Ni K c.Bar "Bar.__init__" (inClass (top 22) 0) ["self", "points"]
 f3_:Md K c.Bar "shows" "Bar.shows" (inClass (top 22) 1) ["self", "web"]
 g3_:Ni K c.Joint "Joint.__init__" (inClass (top 23) 0) ["self", "point", "others"]
 h3_:Fd K mg "steps_of" (top 30) ["web"]
 i3_:Fd K mg "steps_beside" (top 31) ["steps", "point"]
 j3_:Fd K mg "steps_but" (top 32) ["steps", "names"]
 k3_:Fd K mg "shortest_walk" (top 33) ["steps", "begin", "ends"]
 l3_:Fd K mg "step_and_walk" (top 34) ["step", "walk"]
 m3_:Fd K mg "way_over" (top 35) ["steps", "met", "step"]
 n3_:Fd K mg "ring_over" (top 36) ["steps", "step"]
 o3_:Fd K mg "is_tie" (top 40) ["value", "points"]
 p3_:Ni K c.Web "Web.__init__" (inClass (top 41) 0) ["self", "points", "ties"]
 q3_:Fd K mg "refuse_fewer" (top 43) ["web", "least"]
 r3_:Fd K mg "points_behind_a_bar" (top 44) ["web"]
 s3_:Fd K mg "others_behind" (top 45) ["web", "point"]
 t3_:Fd K mg "next_ear" (top 46) ["steps", "met"]
 u3_:Fd K mg "all_ears" (top 47) ["web"]
 v3_:Fd K mg "eared" (top 48) ["web"]
 w3_:Fd K mg "open_eared" (top 49) ["web"]
 x3_:Fd K mg "_law_cell_at" (top 51) ["_law_script", "_law_k"]
 y3_:Fd K mg "_law_draw" (top 52) ["_law_cell", "_law_k", "_law_many"]
 z3_:Fd K mg "_law_told" (top 53) ["_law_cell", "_law_least"]
 a4_:Fd K mg "_law_leaving" (top 54) ["_law_ties", "_law_some"]
 b4_:Fd K mg "_law_rising" (top 55) ["_law_some", "_law_points"]
 c4_:Fd K mg "_law_is_walk" (top 56) ["_law_told_here", "_law_walk"]
 d4_:Fd K mg "_law_is_way" (top 57) ["_law_told_here", "_law_walk"]
 e4_:Fd K mg "_law_is_ring" (top 58) ["_law_told_here", "_law_walk"]
 f4_:Fd K mg "_law_ears" (top 59) ["_law_told_here", "_law_ears_here", "_law_all_ways"]
 g4_:Fd K mg "_law_right" (top 60) ["_law_told_here", "_law_web", "_law_found"]
 law:Fl' K mg (top 61)
theorem Txt.go {K:Frag} {mg:Str->Option Value} {aAnswer aBar aEars aJoint aTurned aWeb:Addr} (T:Txt K mg ⟨aAnswer,aBar,aEars,aJoint,aTurned,aWeb⟩):∃ c,Nonempty (Txt K mg c):=⟨_,⟨T⟩⟩
noncomputable section
variable {P:Program} {w:World} {K:Frag} {mg:Str->Option Value} {base:Heap} {c:CA} (T:Txt K mg c)
theorem K_Answer (T:Txt K mg c):Ka K (e7 c) c.Answer:=aR T.i1_ T.n1_ (aR T.j1_ T.o1_ (aR T.k1_ T.p1_ (aR T.l1_ T.q1_ (aR T.m1_ T.r1_ kn))))
theorem K_Bar (T:Txt K mg c):Ka K (ib c) c.Bar:=aR T.i1_ h9 (aR T.j1_ T.s1_ (aR T.k1_ T.t1_ (aR T.l1_ T.u1_ (aR T.m1_ T.v1_ kn))))
theorem K_Ears (T:Txt K mg c):Ka K (eW c) c.Ears:=aR T.i1_ T.w1_ (aR T.j1_ h9 (aR T.k1_ T.x1_ (aR T.l1_ T.y1_ (aR T.m1_ T.z1_ kn))))
theorem K_Joint (T:Txt K mg c):Ka K (gc c) c.Joint:=aR T.i1_ T.a2_ (aR T.j1_ T.b2_ (aR T.k1_ h9 (aR T.l1_ T.c2_ (aR T.m1_ T.d2_ kn))))
theorem K_Turned (T:Txt K mg c):Ka K (e8 c) c.Turned:=aR T.i1_ T.e2_ (aR T.j1_ T.f2_ (aR T.k1_ T.g2_ (aR T.l1_ h9 (aR T.m1_ T.h2_ kn))))
theorem K_Web (T:Txt K mg c):Ka K (mG c) c.Web:=aR T.i1_ T.i2_ (aR T.j1_ T.j2_ (aR T.k1_ T.k2_ (aR T.l1_ T.l2_ (aR T.m1_ h9 kn))))
noncomputable def kR (c:CA):FS:=(aG ((g7 (ax dU (aa 0)) (dnot (ax is_bool (aa 0))))))
noncomputable def c9 (c:CA):List D->Option D:=run 1 (kR c)
theorem gx:Ok P w mg base 1 T.n2_.toFb (spD 1 (c9 c)):=fD [] fun _ _ _ _ _ _ hr nd=>
 (ak (ay ((fC (ii_int dv T.c_ T.b_) (g8 (de_not (pd dv T.a_ T.b_)))))))
noncomputable def jP (c:CA):FS:=(aG (ad oEq (cT (aa 0)) (al aV (ab (aa 0) af))))
noncomputable def cG (c:CA):List D->Option D:=run 1 (jP c)
theorem fP:Ok P w mg base 1 T.o2_.toFb (spD 1 (cG c)):=fD [] fun _ _ _ _ _ _ hr nd=>
 (ak (ay (c_eq (fZ rfl dv rfl T.d_ rfl T.e_) (bE T.d_ dv) hr)))
noncomputable def kS (c:CA):FS:=(aG (cw oLe oLt (ac (.int 0)) (aa 1) (bZ (isC c.Web) "points" (aa 0))))
noncomputable def eI (c:CA):List D->Option D:=run 2 (kS c)
theorem pC:Ok P w mg base 1 T.p2_.toFb (spD 2 (eI c)):=fD [] fun _ _ _ _ _ _ hr nd=>
 (ak (ay (qe kd bC ae dv (df dv T.f_.cls T.g_))))
noncomputable def jQ (c:CA):FS:=(aG (fk (ab (bZ (isC c.Web) "points" (aa 0)) af)))
noncomputable def bD (c:CA):List D->Option D:=run 1 (jQ c)
theorem fQ:Ok P w mg base 1 T.q2_.toFb (spD 1 (bD c)):=fD [] fun _ _ _ _ _ _ hr nd=>
 (ak (ay (kG rfl (d1 (df dv T.f_.cls T.g_)) rfl T.h_ rfl T.i_)))
noncomputable def mH (c:CA):FS:=(aG (ad oEq (aa 1) (bI (aH (av 1 (bD c) (ab (aa 0) af))) (aq 0) (ai (ad oIn (aa 0) (aa 1))) (aa 0) 1 [1])))
noncomputable def dA (c:CA):List D->Option D:=run 2 (mH c)
theorem lb:Ok P w mg base 2 T.r2_.toFb (spD 2 (dA c)):=fD [] fun _ _ _ _ _ _ hr nd=>
 (ak (ay (c_eq dv (dc ["point", "points"] (bf (du (fQ T) hr (d1 dv))) (fun nd _ _ _ _ _=>⟨(gn nd),(fY (t_in dv dv hr)),dv⟩)) hr)))
noncomputable def iT (c:CA):FS:=(aG (b9 (ab (aZ dJ (ab (aa 0) (ab (aa 1) af))) (ab (aZ fg (ab (aa 0) (ab (aa 1) af))) af))))
noncomputable def eA (c:CA):List D->Option D:=run 2 (iT c)
theorem mI:Ok P w mg base 1 T.s2_.toFb (spD 2 (eA c)):=fD [] fun _ _ _ _ _ _ hr nd=>
 (ak (ay (cL (aj (hV (ke rfl) boot_min T.k_ (aj dv (d1 dv))) (d1 (hV (md rfl) boot_max T.j_ (aj dv (d1 dv))))))))
noncomputable def gy (c:CA):FS:=(aG (al dI (ab (bZ (isC c.Web) "pairs" (aa 0)) af)))
noncomputable def aW (c:CA):List D->Option D:=run 1 (gy c)
noncomputable def eJ (c:CA):List D->Option (List D):=runF 1 (gy c)
theorem pD:Ok P w mg base 1 T.t2_.toFb (spF 1 (eJ c)):=fF [] fun _ _ _ _ _ _ hr nd=>
 (ak (ay (iQ fH boot_list T.h_ (d1 (df dv T.f_.cls T.l_)))))
theorem cA:Ok P w mg base 1 T.t2_.toFb (spD 1 (aW c)):=fD [] fun _ _ _ _ _ _ hr nd=>
 (ak (ay (iQ fH boot_list T.h_ (d1 (df dv T.f_.cls T.l_)))))
noncomputable def ku (c:CA):FS:=(ar (sset 2 (bI (aH ((bH c.Web "ties" 1 (aW c) (aa 0) af))) (aq 0) (ai (ad oNe (ad oIn (ad oIx (aa 0) (ac (.int 0))) (aa 1)) (ad oIn (ad oIx (aa 0) (ac (.int 1))) (aa 1)))) (aa 0) 1 [1])) (i8 2 (aG (bI (aH (aa 2)) (aq 0) dR (dif (ai (ad oIn (ad oIx (aa 0) (ac (.int 0))) (aa 1))) (ad oIx (aa 0) (ac (.int 1))) (ad oIx (aa 0) (ac (.int 0)))) 1 [1]))))
noncomputable def cH (c:CA):List D->Option D:=run 3 (ku c)
theorem jR:Ok P w mg base 2 T.u2_.toFb (spD 2 (cH c)):=fD ["leaving"] fun _ _ _ _ _ _ hr nd=>
 (ah (sc ["tie", "points"] nd (bf ((dm0 T.f_.cls (cA T) hr dv))) (fun nd _ _ _ _ _=>⟨(gn nd),(fY (je (c_in (dx dv ae) dv hr) (c_in (dx dv ae) dv hr) hr)),dv⟩)) (ak (fG (ay (dc ["tie", "points"] (bf dv) (fun nd _ _ _ _ _=>⟨(gn nd),cy,(qf (t_in (dx dv ae) dv hr) (dx dv ae) (dx dv ae))⟩))))))
noncomputable def oj (c:CA):FS:=(ar (sset 2 (bX (ab (aa 0) af))) (ar (sset 3 (ac (.int 0))) (ar (cZ (ai (ad oLt (aa 3) (al aV (ab (aa 2) af)))) (ar (bN (aH (aa 1)) (aq 4) (sif ((cx (ai (ad oEq (ad oIx (aa 4) (ac (.int 0))) (ad oIx (aa 2) (aa 3)))) (ai (ad oNotIn (ad oIx (aa 4) (ac (.int 1))) (aa 2))))) (de 2 (ad oIx (aa 4) (ac (.int 1)))) az)) (k9 (·+·) 3 (ac (.int 1)))) 100) (jy 2))))
noncomputable def da (c:CA):List D->Option D:=run 5 (oj c)
theorem mJ:Ok P w mg base 1 T.v2_.toFb (spD 2 (da c)):=fD ["found", "place", "step"] fun _ _ _ _ _ _ hr nd=>
 (ah (sA nd (bU (d1 dv))) (ah (sA nd ae) (ah (sw (tc2 bC dv (bE T.d_ dv)) (ah (sf (bf dv) (gn nd) (ak (i0 (kM (t_eq (dx dv ae) (dx dv dv) hr) (t_ni (dx dv ae) dv hr)) (ak (cE (pv 2) (dx dv ae)))))) (ak (sg nd ae ip_add)))) (ak (lC (pv 2))))))
noncomputable def F_is_walk (c:CA):FS:=(ar (sset 2 (ad oIx (aa 1) (ac (.int 0)))) (ar (sset 3 (ad oIx (aa 1) (ac (.int 1)))) (ar (sset 4 ((bH c.Web "ties" 1 (aW c) (aa 0) af))) (ar (sif (ai (ad oNe (al aV (ab (aa 2) af)) (ad bh (al aV (ab (aa 3) af)) (ac (.int 1))))) (aG (ac (.bl false))) az) (ar (i8 2 (sif (aP (ai (al iN (ab (bI (aH (aa 2)) (aq 0) dR (av 2 (eI c) (ab (aa 1) (ab (aa 0) af))) 1 [0]) af)))) (aG (ac (.bl false))) az)) (ar (i8 3 (sif (aP (ai (al iN (ab (bI (aH (aa 3)) (aq 0) dR (cw oLe oLt (ac (.int 0)) (aa 0) (al aV (ab (aa 1) af))) 1 [4]) af)))) (aG (ac (.bl false))) az)) (i8 3 (aG (al iN (ab (bI (mh (ab (aa 3) af)) (iM 2 (bO (aq 0) (bO (aq 1) i9))) dR (ad oEq (ad oIx (aa 2) (aa 1)) (av 2 (eA c) (ab (ad oIx (aa 3) (aa 0)) (ab (ad oIx (aa 3) (ad bh (aa 0) (ac (.int 1)))) af)))) 2 [4,2]) af))))))))))
noncomputable def gd (c:CA):List D->Option D:=run 5 (F_is_walk c)
theorem mK:Ok P w mg base 2 T.w2_.toFb (spD 2 (gd c)):=fD ["points", "places", "ties"] fun _ _ _ _ _ _ hr nd=>
 (ah (sA nd (dx dv ae)) (ah (sA nd (dx dv ae)) (ah (sA nd ((dm0 T.f_.cls (cA T) hr dv))) (ah (i0 (je (bE T.d_ dv) (bi bq (bE T.d_ dv) ae) hr) (ak (ay bu))) (ah (fG (i0 (a9 (aT (b_all T.m_ (dc ["point", "web"] (bf dv) (fun nd _ _ _ _ _=>⟨(gn nd),cy,(du (pC T) hr (aj dv (d1 dv)))⟩))))) (ak (ay bu)))) (ah (fG (i0 (a9 (aT (b_all T.m_ (dc ["place", "ties"] (bf dv) (fun nd _ _ _ _ _=>⟨(gn nd),cy,(qe kd bC ae dv (bE T.d_ dv))⟩))))) (ak (ay bu)))) (ak (fG (ay (b_all T.m_ (dc ["k", "place", "ties", "points"] (di_enum rfl T.n_ (d1 dv)) (fun nd _ _ _ _ _=>⟨(g2 (gn nd) (gn nd)),cy,(c_eq (dx dv dv) (du (mI T) hr (aj (dx dv dv) (d1 (dx dv (bi bq dv ae))))) hr)⟩))))))))))))
noncomputable def F_is_way (c:CA):FS:=(aG ((g7 (av 2 (gd c) (ab (aa 0) (ab (aa 1) af))) (av 1 (cG c) (ab (ad oIx (aa 1) (ac (.int 0))) af)))))
noncomputable def mL (c:CA):List D->Option D:=run 2 (F_is_way c)
theorem ok_is_way:Ok P w mg base 3 T.x2_.toFb (spD 2 (mL c)):=fD [] fun _ _ _ _ _ _ hr nd=>
 (ak (ay ((fC (du (mK T) hr (aj dv (d1 dv))) (g8 (du (fP T) hr (d1 (dx dv ae))))))))
noncomputable def F_is_ring (c:CA):FS:=(ar (sif ((bg (aP (ai (av 2 (gd c) (ab (aa 0) (ab (aa 1) af))))) (ai (ad oLt (al aV (ab (ad oIx (aa 1) (ac (.int 1))) af)) (ac (.int 2)))))) (aG (ac (.bl false))) az) (aG ((g7 (ad oEq (ad oIx (ad oIx (aa 1) (ac (.int 0))) (ac (.int 0))) (ad oIx (ad oIx (aa 1) (ac (.int 0))) (dun dS (ac (.int 1))))) (g7 (av 1 (cG c) (ab (bV (ad oIx (aa 1) (ac (.int 0))) (bJ (ac (.int 1))) eG) af)) (av 1 (cG c) (ab (ad oIx (aa 1) (ac (.int 1))) af)))))))
noncomputable def iJ (c:CA):List D->Option D:=run 2 (F_is_ring c)
theorem mM:Ok P w mg base 3 T.y2_.toFb (spD 2 (iJ c)):=fD [] fun _ _ _ _ _ _ hr nd=>
 (ah (i0 (ko (a9 (aT (du (mK T) hr (aj dv (d1 dv))))) (tc2 bC (bE T.d_ (dx dv ae)) ae)) (ak (ay bu))) (ak (ay ((fC (c_eq (dx (dx dv ae) ae) (dx (dx dv ae) (fJ ae)) hr) (fC (du (fP T) hr (d1 (fj (dx dv ae) (ej ae) iG))) (g8 (du (fP T) hr (d1 (dx dv ae))))))))))
noncomputable def ic (c:CA):FS:=(gN (mo (aH (aa 0)) (aq 0) dR (ntup (dY (dL (al dI (ab (ad oIx (aa 0) (ac (.int 0))) af))) (dY (dL (al dI (ab (ad oIx (aa 0) (ac (.int 1))) af))) mn))) 1 []))
noncomputable def dB (c:CA):List D->Option D:=runN 1 (ic c)
theorem lc:Ok P w mg base 1 T.z2_.toFb (spN 1 (dB c)):=fN [] fun _ _ _ _ _ _ hr nd=>
 (ak (ft (nc ["walk"] (bf dv) (fun nd _ _ _ _ _=>⟨(gn nd),cy,(dn_tup (f7 (dw (iQ fH boot_list T.h_ (d1 (dx dv ae)))) (f7 (dw (iQ fH boot_list T.h_ (d1 (dx dv ae)))) o8)))⟩))))
noncomputable def qC (c:CA):FS:=(ar (sset 1 (bX af)) (ar (bN (aH (aa 0)) (aq 2) (k8 1 (ad oIx (aa 2) (ac (.int 1))))) (jy 1)))
noncomputable def ie (c:CA):List D->Option D:=run 3 (qC c)
theorem pE:Ok P w mg base 1 T.a3_.toFb (spD 1 (ie c)):=fD ["places", "walk"] fun _ _ _ _ _ _ hr nd=>
 (ah (sA nd (bU fE)) (ah (sf (bf dv) (gn nd) (ak (kh (pv 1) (dx dv ae)))) (ak (lC (pv 1)))))
noncomputable def kv (c:CA):FS:=(ar (sif ((cx (aP (ai (av 2 (mL c) (ab (aa 0) (ab (aa 1) af))))) (aP (ai (av 2 (iJ c) (ab (aa 0) (ab (aa 1) af))))))) (aG (ac (.bl false))) az) (ar (sif ((bg (ai (ad oLt (al aV (ab (ad oIx (aa 1) (ac (.int 1))) af)) (ac (.int 1)))) (bg (ai (ad oNotIn (ad oIx (ad oIx (aa 1) (ac (.int 0))) (ac (.int 0))) (aa 2))) (ai (ad oNotIn (ad oIx (ad oIx (aa 1) (ac (.int 0))) (dun dS (ac (.int 1)))) (aa 2)))))) (aG (ac (.bl false))) az) (aG (dnot (al k7 (ab (bI (aH (bV (ad oIx (aa 1) (ac (.int 0))) (bJ (ac (.int 1))) (bJ (dun dS (ac (.int 1)))))) (aq 0) dR (ad oIn (aa 0) (aa 1)) 1 [2]) af))))))
noncomputable def cI (c:CA):List D->Option D:=run 3 (kv c)
theorem jS:Ok P w mg base 4 T.b3_.toFb (spD 3 (cI c)):=fD [] fun _ _ _ _ _ _ hr nd=>
 (ah (i0 (kM (a9 (aT (du (ok_is_way T) hr (aj dv (d1 dv))))) (a9 (aT (du (mM T) hr (aj dv (d1 dv)))))) (ak (ay bu))) (ah (i0 (kN (tc2 bC (bE T.d_ (dx dv ae)) ae) (t_ni (dx (dx dv ae) ae) dv hr) (t_ni (dx (dx dv ae) (fJ ae)) dv hr)) (ak (ay bu))) (ak (ay (de_not (jC (c_any rfl) boot_any T.o_ (d1 (dc ["point", "ahead"] (bf (fj (dx dv ae) (ej ae) (ej (fJ ae)))) (fun nd _ _ _ _ _=>⟨(gn nd),cy,(c_in dv dv hr)⟩)))))))))
noncomputable def gQ (c:CA):FS:=(kK c.Ears "ears" (cP 1 (dB c) (ab (aa 1) af)))
noncomputable def cU (c:CA):List D->Option (List (Str×D)):=fun ds=>unif fun p=>h7 2 c.Ears (gQ c) ds p
theorem ge:Ok P w mg base 2 T.c3_.toFb (spIN c.Ears 1 (cU c)):=fI [] fun _ _ _ _ _ _ hr nd=>
 (ak (iH (C:=c.Ears) (pv 0) (nu (lc T) hr (d1 dv)) ⟨T.p_.cls,T.q_⟩))
noncomputable def pF (c:CA):FS:=(ar (sif ((bg (ai (ad oLt (al aV (ab (bZ (isC c.Ears) "ears" (aa 0)) af)) (ac (.int 1)))) (aP (ai (av 2 (iJ c) (ab (aa 1) (ab (ad oIx (bZ (isC c.Ears) "ears" (aa 0)) (ac (.int 0))) af))))))) (aG (ac (.bl false))) az) (ar (sset 2 (al dI (ab (ad oIx (ad oIx (bZ (isC c.Ears) "ears" (aa 0)) (ac (.int 0))) (ac (.int 0))) af))) (ar (bN (aH (bV (bZ (isC c.Ears) "ears" (aa 0)) (bJ (ac (.int 1))) eG)) (aq 3) (ar (sif (aP (ai (av 3 (cI c) (ab (aa 1) (ab (aa 3) (ab (aa 2) af)))))) (aG (ac (.bl false))) az) (k8 2 (ad oIx (aa 3) (ac (.int 0)))))) (ar (sset 4 (fk (ab (al aV (ab ((bH c.Web "ties" 1 (aW c) (aa 1) af)) af)) af))) (aG ((g7 (ad oEq (al eu (ab (av 1 (ie c) (ab (bZ (isC c.Ears) "ears" (aa 0)) af)) af)) (aa 4)) (ad oEq (lJ (aa 2)) (av 1 (bD c) (ab (aa 1) af))))))))))
noncomputable def bb (c:CA):List D->Option D:=run 5 (pF c)
theorem fR:Ok P w mg base 5 T.d3_.toFb (spD 2 (bb c)):=fD ["ahead", "ear", "all_places"] fun _ _ _ _ _ _ hr nd=>
 (ah (i0 (ko (tc2 bC (bE T.d_ (df dv T.p_.cls T.q_)) ae) (a9 (aT (du (mM T) hr (aj dv (d1 (dx (df dv T.p_.cls T.q_) ae))))))) (ak (ay bu))) (ah (sA nd (iQ fH boot_list T.h_ (d1 (dx (dx (df dv T.p_.cls T.q_) ae) ae)))) (ah (sf (bf (fj (df dv T.p_.cls T.q_) (ej ae) iG)) (gn nd) (ah (i0 (a9 (aT (du (jS T) hr (aj dv (aj dv (d1 dv)))))) (ak (ay bu))) (ak (kh (pv 2) (dx dv ae))))) (ah (sA nd (kG rfl (d1 (bE T.d_ ((dm0 T.f_.cls (cA T) hr dv)))) rfl T.h_ rfl T.i_)) (ak (ay ((fC (c_eq (jC mf boot_sorted T.r_ (d1 (du (pE T) hr (d1 (df dv T.p_.cls T.q_))))) dv hr) (g8 (c_eq (de_srtset rfl dv rfl T.r_ rfl T.e_) (du (fQ T) hr (d1 dv)) hr))))))))))
noncomputable def ig (c:CA):FS:=(kK c.Bar "points" (dL (al dI (ab (aa 1) af))))
noncomputable def fx (c:CA):List D->Option (List (Str×D)):=fun ds=>unif fun p=>h7 2 c.Bar (ig c) ds p
theorem ld:Ok P w mg base 1 T.e3_.toFb (spIN c.Bar 1 (fx c)):=fI [] fun _ _ _ _ _ _ hr nd=>
 (ak (iH (C:=c.Bar) (pv 0) (dw (iQ fH boot_list T.h_ (d1 dv))) ⟨T.s_.cls,T.t_⟩))
noncomputable def ii (c:CA):FS:=(ar (sif ((bg (aP (ai (av 2 (dA c) (ab (aa 1) (ab (bZ (isC c.Bar) "points" (aa 0)) af))))) (aP (ai (cw oLt oLt (ac (.int 0)) (al aV (ab (bZ (isC c.Bar) "points" (aa 0)) af)) (bZ (isC c.Web) "points" (aa 1))))))) (aG (ac (.bl false))) az) (aG (ad oLe (al aV (ab (av 2 (cH c) (ab (aa 1) (ab (bZ (isC c.Bar) "points" (aa 0)) af))) af)) (ac (.int 1)))))
noncomputable def bT (c:CA):List D->Option D:=run 2 (ii c)
theorem gz:Ok P w mg base 3 T.f3_.toFb (spD 2 (bT c)):=fD [] fun _ _ _ _ _ _ hr nd=>
 (ah (i0 (ko (a9 (aT (du (lb T) hr (aj dv (d1 (df dv T.s_.cls T.t_)))))) (a9 (jv bC bC ae (bE T.d_ (df dv T.s_.cls T.t_)) (df dv T.f_.cls T.g_)))) (ak (ay bu))) (ak (ay (dc2 kd (bE T.d_ (du (jR T) hr (aj dv (d1 (df dv T.s_.cls T.t_))))) ae))))
noncomputable def gf (c:CA):FS:=(ar (kK c.Joint "point" (dL (aa 1))) (kK c.Joint "others" (dL (al dI (ab (aa 2) af)))))
noncomputable def cJ (c:CA):List D->Option (List (Str×D)):=fun ds=>unif fun p=>h7 3 c.Joint (gf c) ds p
theorem jT:Ok P w mg base 1 T.g3_.toFb (spIN c.Joint 2 (cJ c)):=fI [] fun _ _ _ _ _ _ hr nd=>
 (ah (iH (C:=c.Joint) (pv 0) (dw dv) ⟨T.u_.cls,T.v_⟩) (ak (iH (C:=c.Joint) (pv 0) (dw (iQ fH boot_list T.h_ (d1 dv))) ⟨T.u_.cls,T.w_⟩)))
noncomputable def rJ (c:CA):FS:=(ar (sset 1 (bX af)) (ar (bN (mh (ab ((bH c.Web "ties" 1 (aW c) (aa 0) af)) af)) (iM 2 (bO (aq 2) (bO (aq 3) i9))) (ar (de 1 (b9 (ab (ad oIx (aa 3) (ac (.int 0))) (ab (ad oIx (aa 3) (ac (.int 1))) (ab (aa 2) af))))) (de 1 (b9 (ab (ad oIx (aa 3) (ac (.int 1))) (ab (ad oIx (aa 3) (ac (.int 0))) (ab (aa 2) af))))))) (jy 1)))
noncomputable def cB (c:CA):List D->Option D:=run 4 (rJ c)
theorem ij:Ok P w mg base 2 T.h3_.toFb (spD 1 (cB c)):=fD ["steps", "place", "tie"] fun _ _ _ _ _ _ hr nd=>
 (ah (sA nd (bU fE)) (ah (sf (di_enum rfl T.n_ (d1 ((dm0 T.f_.cls (cA T) hr dv)))) (g2 (gn nd) (gn nd)) (ah (cE (pv 1) (cL (aj (dx dv ae) (aj (dx dv ae) (d1 dv))))) (ak (cE (pv 1) (cL (aj (dx dv ae) (aj (dx dv ae) (d1 dv)))))))) (ak (lC (pv 1)))))
noncomputable def mN (c:CA):FS:=(aG (bI (aH (aa 0)) (aq 0) (ai (ad oNotIn (aa 1) (dslT (aa 0) eG (bJ (ac (.int 2)))))) (aa 0) 1 [1]))
noncomputable def dC (c:CA):List D->Option D:=run 2 (mN c)
theorem gR:Ok P w mg base 1 T.i3_.toFb (spD 2 (dC c)):=fD [] fun _ _ _ _ _ _ hr nd=>
 (ak (ay (dc ["step", "point"] (bf dv) (fun nd _ _ _ _ _=>⟨(gn nd),(fY (t_ni dv (de_slT dv iG (ej ae)) hr)),dv⟩))))
noncomputable def qD (c:CA):FS:=(aG (bI (aH (aa 0)) (aq 0) (ai (ad oNotIn (ad oIx (aa 0) (ac (.int 2))) (aa 1))) (aa 0) 1 [1]))
noncomputable def bF (c:CA):List D->Option D:=run 2 (qD c)
theorem gA:Ok P w mg base 1 T.j3_.toFb (spD 2 (bF c)):=fD [] fun _ _ _ _ _ _ hr nd=>
 (ak (ay (dc ["step", "names"] (bf dv) (fun nd _ _ _ _ _=>⟨(gn nd),(fY (t_ni (dx dv ae) dv hr)),dv⟩))))
noncomputable def eP (c:CA):FS:=(ar (sset 3 (bX (ab (b9 (ab (bX (ab (aa 1) af)) (ab (bX af) af))) af))) (ar (sset 4 (bX (ab (aa 1) af))) (ar (sset 5 (ac (.int 0))) (ar (cZ (ai (ad oLt (aa 5) (al aV (ab (aa 3) af)))) (ar (sset 6 (ad oIx (ad oIx (aa 3) (aa 5)) (ac (.int 0)))) (ar (sif (ai (ad oIn (ad oIx (aa 6) (dun dS (ac (.int 1)))) (aa 2))) (aG (ad oIx (aa 3) (aa 5))) az) (ar (bN (aH (aa 0)) (aq 7) (sif ((cx (ai (ad oEq (ad oIx (aa 7) (ac (.int 0))) (ad oIx (aa 6) (dun dS (ac (.int 1)))))) (ai (ad oNotIn (ad oIx (aa 7) (ac (.int 1))) (aa 4))))) (ar (de 4 (ad oIx (aa 7) (ac (.int 1)))) (de 3 (b9 (ab (ad bh (aa 6) (bX (ab (ad oIx (aa 7) (ac (.int 1))) af))) (ab (ad bh (ad oIx (ad oIx (aa 3) (aa 5)) (ac (.int 1))) (bX (ab (ad oIx (aa 7) (ac (.int 2))) af))) af))))) az)) (k9 (·+·) 5 (ac (.int 1)))))) 100) (aG (ac .non))))))
noncomputable def bQ (c:CA):List D->Option D:=run 8 (eP c)
theorem gg:Ok P w mg base 1 T.k3_.toFb (spD 3 (bQ c)):=fD ["walks", "met", "place", "points", "step"] fun _ _ _ _ _ _ hr nd=>
 (ah (sA nd (bU (d1 (cL (aj (bU (d1 dv)) (d1 (bU fE))))))) (ah (sA nd (bU (d1 dv))) (ah (sA nd ae) (ah (sw (tc2 bC dv (bE T.d_ dv)) (ah (sA nd (dx (dx dv dv) ae)) (ah (i0 (t_in (dx dv (fJ ae)) dv hr) (ak (ay (dx dv dv)))) (ah (sf (bf dv) (gn nd) (ak (i0 (kM (t_eq (dx dv ae) (dx dv (fJ ae)) hr) (t_ni (dx dv ae) dv hr)) (ah (cE (pv 4) (dx dv ae)) (ak (cE (pv 3) (cL (aj (bi bq dv (bU (d1 (dx dv ae)))) (d1 (bi bq (dx (dx dv dv) ae) (bU (d1 (dx dv ae))))))))))))) (ak (sg nd ae ip_add)))))) (ak (ay o2))))))
noncomputable def gS (c:CA):FS:=(gN (ntup (dY (dL (ad bh (bX (ab (ad oIx (aa 0) (ac (.int 0))) af)) (ad oIx (aa 1) (ac (.int 0))))) (dY (dL (ad bh (bX (ab (ad oIx (aa 0) (ac (.int 2))) af)) (ad oIx (aa 1) (ac (.int 1))))) mn))))
noncomputable def cf (c:CA):List D->Option D:=runN 2 (gS c)
theorem gh:Ok P w mg base 1 T.l3_.toFb (spN 2 (cf c)):=fN [] fun _ _ _ _ _ _ hr nd=>
 (ak (ft (dn_tup (f7 (dw (bi bq (bU (d1 (dx dv ae))) (dx dv ae))) (f7 (dw (bi bq (bU (d1 (dx dv ae))) (dx dv ae))) o8)))))
noncomputable def rK (c:CA):FS:=(ar (sset 3 (av 3 (bQ c) (ab (av 2 (dC c) (ab (aa 0) (ab (ad oIx (aa 2) (ac (.int 0))) af))) (ab (ad oIx (aa 2) (ac (.int 1))) (ab (aa 1) af))))) (gN (nif (ai (ad oIs (aa 3) (ac .non))) (dL (ac .non)) (cP 2 (cf c) (ab (aa 2) (ab (aa 3) af))))))
noncomputable def ji (c:CA):List D->Option D:=runN 4 (rK c)
theorem qE:Ok P w mg base 2 T.m3_.toFb (spN 3 (ji c)):=fN ["walk"] fun _ _ _ _ _ _ hr nd=>
 (ah (sA nd (du (gg T) hr (aj (du (gR T) hr (aj dv (d1 (dx dv ae)))) (aj (dx dv ae) (d1 dv))))) (ak (ft (qr (tc2 op_oIs dv o2) (dw o2) (nu (gh T) hr (aj dv (d1 dv)))))))
noncomputable def qF (c:CA):FS:=(gN (cP 2 (cf c) (ab (aa 1) (ab (av 3 (bQ c) (ab (av 2 (bF c) (ab (aa 0) (ab (bX (ab (ad oIx (aa 1) (ac (.int 2))) af)) af))) (ab (ad oIx (aa 1) (ac (.int 1))) (ab (bX (ab (ad oIx (aa 1) (ac (.int 0))) af)) af)))) af))))
noncomputable def ik (c:CA):List D->Option D:=runN 2 (qF c)
theorem pG:Ok P w mg base 2 T.n3_.toFb (spN 2 (ik c)):=fN [] fun _ _ _ _ _ _ hr nd=>
 (ak (ft (nu (gh T) hr (aj dv (d1 (du (gg T) hr (aj (du (gA T) hr (aj dv (d1 (bU (d1 (dx dv ae)))))) (aj (dx dv ae) (d1 (bU (d1 (dx dv ae))))))))))))
noncomputable def qG (c:CA):FS:=(ar (sif ((bg (aP (ai (ax fq (aa 0)))) (ai (ad oNe (al aV (ab (aa 0) af)) (ac (.int 2)))))) (aG (ac (.bl false))) az) (aG ((g7 (av 1 (c9 c) (ab (ad oIx (aa 0) (ac (.int 0))) af)) (g7 (av 1 (c9 c) (ab (ad oIx (aa 0) (ac (.int 1))) af)) (jB oLe oLt oLt (ac (.int 0)) (ad oIx (aa 0) (ac (.int 0))) (ad oIx (aa 0) (ac (.int 1))) (aa 1)))))))
noncomputable def gi (c:CA):List D->Option D:=run 2 (qG c)
theorem ok_is_tie:Ok P w mg base 2 T.o3_.toFb (spD 2 (gi c)):=fD [] fun _ _ _ _ _ _ hr nd=>
 (ah (i0 (ko (a9 (aT (qu dv T.x_ T.b_))) (je (bE T.d_ dv) ae hr)) (ak (ay bu))) (ak (ay ((fC (du (gx T) hr (d1 (dx dv ae))) (fC (du (gx T) hr (d1 (dx dv ae))) (g8 (de_chain3 kd bC bC ae (dx dv ae) (dx dv ae) dv))))))))
noncomputable def dD (c:CA):FS:=(ar (sif ((bg (aP (ai (av 1 (c9 c) (ab (aa 1) af)))) (aP (ai (cw oLe oLe (ac (.int 1)) (aa 1) (ac (.int 8))))))) ((fun _=>none)) az) (ar (sif ((bg (aP (ai (ax cF (aa 2)))) (ai (ad oGt (al aV (ab (aa 2) af)) (ac (.int 14)))))) ((fun _=>none)) az) (ar (sif (aP (ai (al iN (ab (bI (aH (aa 2)) (aq 0) dR (av 2 (gi c) (ab (aa 0) (ab (aa 1) af))) 1 [1]) af)))) ((fun _=>none)) az) (ar (kK c.Web "points" (dL (aa 1))) (kK c.Web "pairs" (mo (aH (aa 2)) (aq 0) dR (ntup (dY (dL (ad oIx (aa 0) (ac (.int 0)))) (dY (dL (ad oIx (aa 0) (ac (.int 1)))) mn))) 1 []))))))
noncomputable def bL (c:CA):List D->Option (List (Str×D)):=fun ds=>unif fun p=>h7 3 c.Web (dD c) ds p
theorem eQ:Ok P w mg base 3 T.p3_.toFb (spIN c.Web 2 (bL c)):=fI [] fun _ _ _ _ _ _ hr nd=>
 (ah (i0 (ko (a9 (aT (du (gx T) hr (d1 dv)))) (a9 (jv kd kd ae dv (dk T.y_)))) (ak (jx))) (ah (i0 (ko (a9 (aT (jJ dv T.h_ T.b_))) (tc2 ja (bE T.d_ dv) (dk T.z_))) (ak (jx))) (ah (i0 (a9 (aT (b_all T.m_ (dc ["tie", "points"] (bf dv) (fun nd _ _ _ _ _=>⟨(gn nd),cy,(du (ok_is_tie T) hr (aj dv (d1 dv)))⟩))))) (ak (jx))) (ah (iH (C:=c.Web) (pv 0) (dw dv) ⟨T.f_.cls,T.g_⟩) (ak (iH (C:=c.Web) (pv 0) (nc ["tie"] (bf dv) (fun nd _ _ _ _ _=>⟨(gn nd),cy,(dn_tup (f7 (dw (dx dv ae)) (f7 (dw (dx dv ae)) o8)))⟩)) ⟨T.f_.cls,T.l_⟩))))))
noncomputable def cC (c:CA):FS:=(sif ((bg (aP (ai (ax (mG c) (aa 0)))) (ai (ad oLt (bZ (isC c.Web) "points" (aa 0)) (aa 1))))) ((fun _=>none)) az)
noncomputable def dF (c:CA):List D->Option D:=run 2 (cC c)
theorem gT:Ok P w mg base 1 T.q3_.toFb (spD 2 (dF c)):=fD [] fun _ _ _ _ _ _ hr nd=>
 (ak (i0 (ko (a9 (aT (ii_c dv T.f_ (K_Web T) T.b_))) (tc2 bC (df dv T.f_.cls T.g_) dv)) (ak (jx))))
noncomputable def dM (c:CA):FS:=(ar (sset 1 (av 1 (cB c) (ab (aa 0) af))) (ar (bN (gM (ab (ad bh (al aV (ab ((bH c.Web "ties" 1 (aW c) (aa 0) af)) af)) (ac (.int 1))) af)) (aq 2) (ar (sset 3 (av 2 (da c) (ab (ac (.int 0)) (ab (av 2 (bF c) (ab (aa 1) (ab (bX (ab (aa 2) af)) af))) af)))) (sif (ai (ad oLt (al aV (ab (aa 3) af)) (bZ (isC c.Web) "points" (aa 0)))) (aG (al eu (ab (aa 3) af))) az))) (aG (bX af))))
noncomputable def ck (c:CA):List D->Option D:=run 4 (dM c)
theorem gB:Ok P w mg base 3 T.r3_.toFb (spD 1 (ck c)):=fD ["steps", "place", "points"] fun _ _ _ _ _ _ hr nd=>
 (ah (sA nd (du (ij T) hr (d1 dv))) (ah (sf (ir T.i_ (bi bq (bE T.d_ ((dm0 T.f_.cls (cA T) hr dv))) ae)) (gn nd) (ah (sA nd (du (mJ T) hr (aj ae (d1 (du (gA T) hr (aj dv (d1 (bU (d1 dv))))))))) (ak (i0 (tc2 bC (bE T.d_ dv) (df dv T.f_.cls T.g_)) (ak (ay (jC mf boot_sorted T.r_ (d1 dv)))))))) (ak (ay (bU fE)))))
noncomputable def lf (c:CA):FS:=(ar (sset 2 (dif (ai (ad oEq (aa 1) (ac (.int 0)))) (ac (.int 1)) (ac (.int 0)))) (aG (al eu (ab (av 2 (da c) (ab (aa 2) (ab (av 2 (dC c) (ab (av 1 (cB c) (ab (aa 0) af)) (ab (aa 1) af))) af))) af))))
noncomputable def cg (c:CA):List D->Option D:=run 3 (lf c)
theorem kx:Ok P w mg base 3 T.s3_.toFb (spD 2 (cg c)):=fD ["begin"] fun _ _ _ _ _ _ hr nd=>
 (ah (sA nd (qf (t_eq dv ae hr) ae ae)) (ak (ay (jC mf boot_sorted T.r_ (d1 (du (mJ T) hr (aj dv (d1 (du (gR T) hr (aj (du (ij T) hr (d1 dv)) (d1 dv)))))))))))
noncomputable def rL (c:CA):FS:=(ar (sset 2 (ad oIx (bI (aH (aa 0)) (aq 0) (ai (ad oIn (ad oIx (aa 0) (ac (.int 0))) (aa 1))) (aa 0) 1 [1]) (ac (.int 0)))) (ar (i8 2 (jE 3 (cP 3 (ji c) (ab (aa 0) (ab (aa 1) (ab (aa 2) af)))))) (i8 2 (jI 3 (ai (ad oIs (aa 3) (ac .non))) (cP 2 (ik c) (ab (aa 0) (ab (aa 2) af)))))))
noncomputable def gC (c:CA):List D->Option D:=runN 4 (rL c)
theorem qH:Ok P w mg base 3 T.t3_.toFb (spN 2 (gC c)):=fN ["first", "way"] fun _ _ _ _ _ _ hr nd=>
 (ah (sA nd (dx (dc ["step", "met"] (bf dv) (fun nd _ _ _ _ _=>⟨(gn nd),(fY (t_in (dx dv ae) dv hr)),dv⟩)) ae)) (ah (fG (stN nd (nu (qE T) hr (aj dv (aj dv (d1 dv)))))) (ak (fG (ds_retIf2 (tc2 op_oIs dv o2) (pv 3) (nu (pG T) hr (aj dv (d1 dv))))))))
noncomputable def mO (c:CA):FS:=(ar (sset 1 (bX af)) (ar (sset 2 (bX (ab (ac (.int 0)) af))) (ar (sset 3 (av 1 (cB c) (ab (aa 0) af))) (ar (cZ (ai (ad oGt (al aV (ab (aa 3) af)) (ac (.int 0)))) (ar (km 2 4 (cP 2 (gC c) (ab (aa 3) (ab (aa 2) af)))) (ar (i8 4 (de 1 (aa 4))) (ar (k8 2 (ad oIx (aa 4) (ac (.int 0)))) (sset 3 (av 2 (bF c) (ab (aa 3) (ab (ad oIx (aa 4) (ac (.int 1))) af))))))) 100) (jy 1)))))
noncomputable def gD (c:CA):List D->Option D:=run 5 (mO c)
theorem kT:Ok P w mg base 4 T.u3_.toFb (spD 1 (gD c)):=fD ["ears", "met", "steps", "ear"] fun _ _ _ _ _ _ hr nd=>
 (ah (sA nd (bU fE)) (ah (sA nd (bU (d1 ae))) (ah (sA nd (du (ij T) hr (d1 dv))) (ah (sw (tc2 ja (bE T.d_ dv) ae) (ah (stNB nd (nu (qH T) hr (aj dv (d1 dv)))) (ah (fG (cE (pv 1) dv)) (ah (kh (pv 2) (dx dv ae)) (ak (sA nd (du (gA T) hr (aj dv (d1 (dx dv ae)))))))))) (ak (lC (pv 1)))))))
noncomputable def F_eared (c:CA):FS:=(ar (gP (av 2 (dF c) (ab (aa 0) (ab (ac (.int 2)) af)))) (ar (sset 1 (av 1 (ck c) (ab (aa 0) af))) (gN (nif (ai (ad oGt (al aV (ab (aa 1) af)) (ac (.int 0)))) (fu c.Bar 1 (fx c) (ab (aa 1) af)) (fu c.Ears 1 (cU c) (ab (av 1 (gD c) (ab (aa 0) af)) af))))))
noncomputable def jU (c:CA):List D->Option D:=runN 2 (F_eared c)
theorem ok_eared:Ok P w mg base 5 T.v3_.toFb (spN 1 (jU c)):=fN ["points"] fun _ _ _ _ _ _ hr nd=>
 (ah (pb (du (gT T) hr (aj dv (d1 ae)))) (ah (sA nd (du (gB T) hr (d1 dv))) (ak (ft (qr (tc2 ja (bE T.d_ dv) ae) (nk T.s_ (ld T) hr (d1 dv)) (nk T.p_ (ge T) hr (d1 (du (kT T) hr (d1 dv)))))))))
noncomputable def pH (c:CA):FS:=(ar (gP (av 2 (dF c) (ab (aa 0) (ab (ac (.int 3)) af)))) (ar (bN (aH (av 1 (bD c) (ab (aa 0) af))) (aq 1) (ar (sset 2 (av 2 (cg c) (ab (aa 0) (ab (aa 1) af)))) (sif (ai (ad oLt (al aV (ab (aa 2) af)) (ad oSub (bZ (isC c.Web) "points" (aa 0)) (ac (.int 1))))) (gN (fu c.Joint 2 (cJ c) (ab (aa 1) (ab (aa 2) af)))) az))) (gN (fu c.Ears 1 (cU c) (ab (av 1 (gD c) (ab (aa 0) af)) af)))))
noncomputable def cc (c:CA):List D->Option D:=runN 3 (pH c)
theorem nH:Ok P w mg base 5 T.w3_.toFb (spN 1 (cc c)):=fN ["point", "others"] fun _ _ _ _ _ _ hr nd=>
 (ah (pb (du (gT T) hr (aj dv (d1 ae)))) (ah (sf (bf (du (fQ T) hr (d1 dv))) (gn nd) (ah (sA nd (du (kx T) hr (aj dv (d1 dv)))) (ak (i0 (tc2 bC (bE T.d_ dv) (bi o0 (df dv T.f_.cls T.g_) ae)) (ak (ft (nk T.u_ (jT T) hr (aj dv (d1 dv))))))))) (ak (ft (nk T.p_ (ge T) hr (d1 (du (kT T) hr (d1 dv))))))))
noncomputable def cj (c:CA) (K:Frag):FS:=(ar (sif (ai (ad oLt (aa 1) (dlenS K 0))) (aG (dixS K 0 (aa 1))) az) (aG (ac (.int 0))))
noncomputable def bW (c:CA) (K:Frag):List Int->Int->Option Int:=runS 2 K (cj c K)
theorem il:Ok P w mg base 1 T.x3_.toFb (spS K (bW c K)):=fS [] fun _ _ _ _ _ _ hr nd=>
 (ah (i0 (tc2 bC dv (de_lenS (pv 0) (by rfl) T.d_)) (ak (ay (de_ixS (pv 0) dv (fun _ _=>rfl))))) (ak (ay ae)))
noncomputable def rM (c:CA):FS:=(ar (sset 3 (b9 (ab (ac (.int 1000003)) (ab (ac (.int 1000033)) (ab (ac (.int 1000037)) (ab (ac (.int 1000039)) (ab (ac (.int 1000081)) (ab (ac (.int 1000099)) (ab (ac (.int 1000117)) (ab (ac (.int 1000121)) (ab (ac (.int 1000133)) (ab (ac (.int 1000151)) (ab (ac (.int 1000159)) (ab (ac (.int 1000171)) (ab (ac (.int 1000183)) (ab (ac (.int 1000187)) (ab (ac (.int 1000193)) (ab (ac (.int 1000199)) af)))))))))))))))))) (aG (ad oMod (ad oMod (ad bh (ad cr (aa 0) (ac (.int 48271))) (ad cr (aa 1) (ac (.int 69621)))) (ad oIx (aa 3) (ad oMod (aa 1) (ac (.int 16))))) (aa 2))))
noncomputable def aL (c:CA):List D->Option D:=run 4 (rM c)
theorem ca:Ok P w mg base 1 T.y3_.toFb (spD 3 (aL c)):=fD ["_law_primes"] fun _ _ _ _ _ _ hr nd=>
 (ah (sA nd (cL (aj ae (aj ae (aj ae (aj ae (aj ae (aj ae (aj ae (aj ae (aj ae (aj ae (aj ae (aj ae (aj ae (aj ae (aj ae (d1 ae)))))))))))))))))) (ak (ay (bi iF (bi iF (bi bq (bi eS dv ae) (bi eS dv ae)) (dx dv (bi iF dv ae))) dv))))
noncomputable def rN (c:CA):FS:=(ar (sset 2 (aZ fg (ab (aa 1) (ab (ad oIx (b9 (ab (ac (.int 4)) (ab (ac (.int 5)) (ab (ac (.int 3)) (ab (ac (.int 6)) (ab (ac (.int 2)) (ab (ac (.int 7)) (ab (ac (.int 1)) (ab (ac (.int 8)) af))))))))) (av 3 (aL c) (ab (aa 0) (ab (ac (.int 1)) (ab (ac (.int 8)) af))))) af)))) (ar (sset 3 (av 3 (aL c) (ab (aa 0) (ab (ac (.int 2)) (ab (ac (.int 4)) af))))) (ar (sset 4 (bX af)) (ar (sset 5 (ad oIx (b9 (ab (ac (.int 1)) (ab (ac (.int 3)) (ab (ac (.int 5)) (ab (ac (.int 7)) af))))) (av 3 (aL c) (ab (aa 0) (ab (ac (.int 3)) (ab (ac (.int 4)) af)))))) (ar (sif ((cx (ai (ad oEq (ad oMod (aa 2) (aa 5)) (ac (.int 0)))) (ai (ad oGt (aa 5) (ac (.int 1)))))) (sset 5 (ac (.int 1))) az) (ar (sif ((cx (ai (ad oGt (aa 3) (ac (.int 0)))) (ai (ad oGt (aa 2) (ac (.int 1)))))) (bN (gM (ab (ad bh (ad oSub (aa 2) (ac (.int 1))) (aZ dJ (ab (ad oSub (aa 3) (ac (.int 1))) (ab (ac (.int 1)) af)))) af)) (aq 6) (ar (n5 7 8 (ad oMod (ad cr (aa 6) (aa 5)) (aa 2)) (ad oMod (ad cr (ad bh (aa 6) (ac (.int 1))) (aa 5)) (aa 2))) (de 4 (b9 (ab (aZ dJ (ab (aa 7) (ab (aa 8) af))) (ab (aZ fg (ab (aa 7) (ab (aa 8) af))) af)))))) az) (ar (sset 9 (ad oIx (b9 (ab (ac (.int 9)) (ab (ac (.int 4)) af))) (aZ dJ (ab (aa 3) (ab (ac (.int 1)) af))))) (ar (sif (ai (ad oEq (av 3 (aL c) (ab (aa 0) (ab (ac (.int 8)) (ab (ac (.int 4)) af)))) (ac (.int 0)))) (sset 9 (ac (.int 15))) az) (ar (i8 9 (bN (gM (ab (av 3 (aL c) (ab (aa 0) (ab (ac (.int 4)) (ab (aa 9) af)))) af)) (aq 6) (ar (sset 7 (av 3 (aL c) (ab (ad cr (ad bh (aa 0) (ad cr (ac (.int 977)) (aa 6))) (ad bh (aa 6) (ac (.int 3)))) (ab (ac (.int 5)) (ab (aa 2) af))))) (ar (sset 8 (av 3 (aL c) (ab (ad cr (ad bh (aa 0) (ad cr (ac (.int 31)) (aa 6))) (ad bh (aa 6) (ac (.int 5)))) (ab (ac (.int 6)) (ab (aa 2) af))))) (sif (ai (ad oNe (aa 7) (aa 8))) (de 4 (b9 (ab (aZ dJ (ab (aa 7) (ab (aa 8) af))) (ab (aZ fg (ab (aa 7) (ab (aa 8) af))) af)))) az))))) (ar (sif (ai (ad oEq (av 3 (aL c) (ab (aa 0) (ab (ac (.int 7)) (ab (ac (.int 2)) af)))) (ac (.int 0)))) (sset 4 (drev (aa 4) (dun dS (ac (.int 1))))) az) (aG (b9 (ab (aa 2) (ab (bV (aa 4) eG (bJ (ac (.int 14)))) af))))))))))))))
noncomputable def jj (c:CA):List D->Option D:=run 10 (rN c)
theorem qI:Ok P w mg base 2 T.z3_.toFb (spD 2 (jj c)):=fD ["_law_points", "_law_kind", "_law_ties", "_law_turn", "_law_k", "_law_one", "_law_other", "_law_most"] fun _ _ _ _ _ _ hr nd=>
 (ah (sA nd (hV (md rfl) boot_max T.j_ (aj dv (d1 (dx (cL (aj ae (aj ae (aj ae (aj ae (aj ae (aj ae (aj ae (d1 ae))))))))) (du (ca T) hr (aj dv (aj ae (d1 ae))))))))) (ah (sA nd (du (ca T) hr (aj dv (aj ae (d1 ae))))) (ah (sA nd (bU fE)) (ah (sA nd (dx (cL (aj ae (aj ae (aj ae (d1 ae))))) (du (ca T) hr (aj dv (aj ae (d1 ae)))))) (ah (i0 (kM (t_eq (bi iF dv dv) ae hr) (tc2 ja dv ae)) (ak (sA nd ae))) (ah (i0 (kM (tc2 ja dv ae) (tc2 ja dv ae)) (ak (sf (ir T.i_ (bi bq (bi o0 dv ae) (hV (ke rfl) boot_min T.k_ (aj (bi o0 dv ae) (d1 ae))))) (gn nd) (ah (ds_par rfl nd rfl rfl (by decide) rfl rfl (bi iF (bi eS dv dv) dv) (bi iF (bi eS (bi bq dv ae) dv) dv) rfl) (ak (cE (pv 4) (cL (aj (hV (ke rfl) boot_min T.k_ (aj dv (d1 dv))) (d1 (hV (md rfl) boot_max T.j_ (aj dv (d1 dv)))))))))))) (ah (sA nd (dx (cL (aj ae (d1 ae))) (hV (ke rfl) boot_min T.k_ (aj dv (d1 ae))))) (ah (i0 (t_eq (du (ca T) hr (aj dv (aj ae (d1 ae)))) ae hr) (ak (sA nd ae))) (ah (fG (sf (ir T.i_ (du (ca T) hr (aj dv (aj ae (d1 dv))))) (gn nd) (ah (sA nd (du (ca T) hr (aj (bi eS (bi bq dv (bi eS ae dv)) (bi bq dv ae)) (aj ae (d1 dv))))) (ah (sA nd (du (ca T) hr (aj (bi eS (bi bq dv (bi eS ae dv)) (bi bq dv ae)) (aj ae (d1 dv))))) (ak (i0 (je dv dv hr) (ak (cE (pv 4) (cL (aj (hV (ke rfl) boot_min T.k_ (aj dv (d1 dv))) (d1 (hV (md rfl) boot_max T.j_ (aj dv (d1 dv)))))))))))))) (ah (i0 (t_eq (du (ca T) hr (aj dv (aj ae (d1 ae)))) ae hr) (ak (sA nd (de_rev dv (fJ ae))))) (ak (ay (cL (aj dv (d1 (fj dv iG (ej ae)))))))))))))))))
noncomputable def nI (c:CA):FS:=(aG (al aV (ab (bI (aH (aa 0)) (iM 2 (bO (aq 0) (bO (aq 1) i9))) (ai (ad oNe (ad oIn (aa 0) (aa 2)) (ad oIn (aa 1) (aa 2)))) (ac (.int 1)) 2 [1]) af)))
noncomputable def cR (c:CA):List D->Option D:=run 2 (nI c)
theorem im:Ok P w mg base 1 T.a4_.toFb (spD 2 (cR c)):=fD [] fun _ _ _ _ _ _ hr nd=>
 (ak (ay (bE T.d_ (dc ["_law_one", "_law_other", "_law_some"] (bf dv) (fun nd _ _ _ _ _=>⟨(g2 (gn nd) (gn nd)),(fY (je (c_in dv dv hr) (c_in dv dv hr) hr)),ae⟩)))))
noncomputable def pI (c:CA):FS:=(ar (sif (aP (ai (ax cF (aa 0)))) (aG (ac (.bl false))) az) (ar (sset 2 (dun dS (ac (.int 1)))) (ar (bN (aH (aa 0)) (aq 3) (ar (sif ((bg (ai (ax is_bool (aa 3))) (bg (aP (ai (ax dU (aa 3)))) (aP (ai (cw oLt oLt (aa 2) (aa 3) (aa 1))))))) (aG (ac (.bl false))) az) (sset 2 (aa 3)))) (aG (ac (.bl true))))))
noncomputable def gE (c:CA):List D->Option D:=run 4 (pI c)
theorem nJ:Ok P w mg base 1 T.b4_.toFb (spD 2 (gE c)):=fD ["_law_last", "_law_point"] fun _ _ _ _ _ _ hr nd=>
 (ah (i0 (a9 (aT (jJ dv T.h_ T.b_))) (ak (ay bu))) (ah (sA nd (fJ ae)) (ah (sf (bf dv) (gn nd) (ah (i0 (kN (aT (pd dv T.a_ T.b_)) (a9 (aT (ii_int dv T.c_ T.b_))) (a9 (jv bC bC dv dv dv))) (ak (ay bu))) (ak (sA nd dv)))) (ak (ay bu)))))
noncomputable def nK (c:CA):FS:=(ar (sif ((bg (aP (ai (ax fq (aa 1)))) (bg (ai (ad oNe (al aV (ab (aa 1) af)) (ac (.int 2)))) (bg (aP (ai (ax cF (ad oIx (aa 1) (ac (.int 0)))))) (aP (ai (ax cF (ad oIx (aa 1) (ac (.int 1)))))))))) (aG (ac (.bl false))) az) (ar (la (aa 1) (iM 2 (bO (aq 2) (bO (aq 3) i9)))) (ar (sif ((bg (ai (ad oNe (al aV (ab (aa 2) af)) (ad bh (al aV (ab (aa 3) af)) (ac (.int 1))))) (ai (ad oNe (cT (aa 3)) (al aV (ab (aa 3) af)))))) (aG (ac (.bl false))) az) (ar (bN (aH (ad bh (aa 2) (aa 3))) (aq 4) (sif ((bg (ai (ax is_bool (aa 4))) (bg (aP (ai (ax dU (aa 4)))) (ai (ad oLt (aa 4) (ac (.int 0))))))) (aG (ac (.bl false))) az)) (ar (sif ((bg (ai (ad oGe (al kF (ab (aa 2) af)) (ad oIx (aa 0) (ac (.int 0))))) (aP (ai (al iN (ab (bI (aH (aa 3)) (aq 0) dR (ad oLt (aa 0) (al aV (ab (ad oIx (aa 1) (ac (.int 1))) af))) 1 [0]) af)))))) (aG (ac (.bl false))) az) (ar (bN (gM (ab (al aV (ab (aa 3) af)) af)) (aq 5) (sif (ai (ad oNe (ad oIx (ad oIx (aa 0) (ac (.int 1))) (ad oIx (aa 3) (aa 5))) (b9 (ab (aZ dJ (ab (ad oIx (aa 2) (aa 5)) (ab (ad oIx (aa 2) (ad bh (aa 5) (ac (.int 1)))) af))) (ab (aZ fg (ab (ad oIx (aa 2) (aa 5)) (ab (ad oIx (aa 2) (ad bh (aa 5) (ac (.int 1)))) af))) af))))) (aG (ac (.bl false))) az)) (aG (ac (.bl true)))))))))
noncomputable def eB (c:CA):List D->Option D:=run 6 (nK c)
theorem io:Ok P w mg base 1 T.c4_.toFb (spD 2 (eB c)):=fD ["_law_points", "_law_places", "_law_number", "_law_k"] fun _ _ _ _ _ _ hr nd=>
 (ah (i0 (DW.dt (n4 (a9 (aT (qu dv T.x_ T.b_))) (n4 (je (bE T.d_ dv) ae hr) (n4 (a9 (aT (jJ (dx dv ae) T.h_ T.b_))) (dw_or1 (a9 (aT (jJ (dx dv ae) T.h_ T.b_)))))))) (ak (ay bu))) (ah (o4 dv (g2 (gn nd) (gn nd))) (ah (i0 (ko (je (bE T.d_ dv) (bi bq (bE T.d_ dv) ae) hr) (je (fZ rfl dv rfl T.d_ rfl T.e_) (bE T.d_ dv) hr)) (ak (ay bu))) (ah (sf (bf (bi bq dv dv)) (gn nd) (ak (i0 (kN (aT (pd dv T.a_ T.b_)) (a9 (aT (ii_int dv T.c_ T.b_))) (tc2 bC dv ae)) (ak (ay bu))))) (ah (i0 (ko (tc2 op_oGe (jC (c_max1 rfl) boot_max T.j_ (d1 dv)) (dx dv ae)) (a9 (aT (b_all T.m_ (dc ["_law_place", "_law_told_here"] (bf dv) (fun nd _ _ _ _ _=>⟨(gn nd),cy,(dc2 bC dv (bE T.d_ (dx dv ae)))⟩)))))) (ak (ay bu))) (ah (sf (ir T.i_ (bE T.d_ dv)) (gn nd) (ak (i0 (je (dx (dx dv ae) (dx dv dv)) (cL (aj (hV (ke rfl) boot_min T.k_ (aj (dx dv dv) (d1 (dx dv (bi bq dv ae))))) (d1 (hV (md rfl) boot_max T.j_ (aj (dx dv dv) (d1 (dx dv (bi bq dv ae)))))))) hr) (ak (ay bu))))) (ak (ay bu))))))))
noncomputable def pJ (c:CA):FS:=(aG ((g7 (av 2 (eB c) (ab (aa 0) (ab (aa 1) af))) (ad oEq (cT (ad oIx (aa 1) (ac (.int 0)))) (al aV (ab (ad oIx (aa 1) (ac (.int 0))) af))))))
noncomputable def eX (c:CA):List D->Option D:=run 2 (pJ c)
theorem nN:Ok P w mg base 2 T.d4_.toFb (spD 2 (eX c)):=fD [] fun _ _ _ _ _ _ hr nd=>
 (ak (ay ((fC (du (io T) hr (aj dv (d1 dv))) (g8 (c_eq (fZ rfl (dx dv ae) rfl T.d_ rfl T.e_) (bE T.d_ (dx dv ae)) hr))))))
noncomputable def nO (c:CA):FS:=(ar (sif ((bg (aP (ai (av 2 (eB c) (ab (aa 0) (ab (aa 1) af))))) (bg (ai (ad oLt (al aV (ab (ad oIx (aa 1) (ac (.int 1))) af)) (ac (.int 2)))) (ai (ad oNe (ad oIx (ad oIx (aa 1) (ac (.int 0))) (ac (.int 0))) (ad oIx (ad oIx (aa 1) (ac (.int 0))) (dun dS (ac (.int 1))))))))) (aG (ac (.bl false))) az) (aG (ad oEq (cT (ad oIx (aa 1) (ac (.int 0)))) (al aV (ab (ad oIx (aa 1) (ac (.int 1))) af)))))
noncomputable def cS (c:CA):List D->Option D:=run 2 (nO c)
theorem ip:Ok P w mg base 2 T.e4_.toFb (spD 2 (cS c)):=fD [] fun _ _ _ _ _ _ hr nd=>
 (ah (i0 (kN (a9 (aT (du (io T) hr (aj dv (d1 dv))))) (tc2 bC (bE T.d_ (dx dv ae)) ae) (je (dx (dx dv ae) ae) (dx (dx dv ae) (fJ ae)) hr)) (ak (ay bu))) (ak (ay (c_eq (fZ rfl (dx dv ae) rfl T.d_ rfl T.e_) (bE T.d_ (dx dv ae)) hr))))
noncomputable def rO (c:CA):FS:=(ar (sif ((bg (aP (ai (ax cF (aa 1)))) (bg (ai (ad oEq (aa 1) (bX af))) (aP (ai (av 2 (cS c) (ab (aa 0) (ab (ad oIx (aa 1) (ac (.int 0))) af)))))))) (aG (ac (.bl false))) az) (ar (la (b9 (ab (al dI (ab (ad oIx (ad oIx (aa 1) (ac (.int 0))) (ac (.int 0))) af)) (ab (al dI (ab (ad oIx (ad oIx (aa 1) (ac (.int 0))) (ac (.int 1))) af)) af))) (iM 2 (bO (aq 3) (bO (aq 4) i9)))) (ar (bN (aH (bV (aa 1) (bJ (ac (.int 1))) eG)) (aq 5) (ar (sif ((cx (aP (ai (av 2 (eX c) (ab (aa 0) (ab (aa 5) af))))) ((bg (ai (aa 2)) (aP (ai (av 2 (cS c) (ab (aa 0) (ab (aa 5) af))))))))) (aG (ac (.bl false))) az) (ar (la (aa 5) (iM 2 (bO (aq 6) (bO (aq 7) i9)))) (ar (sif ((bg (ai (ad oEq (aa 7) (bX af))) (bg (ai (ad oNotIn (ad oIx (aa 6) (ac (.int 0))) (aa 3))) (ai (ad oNotIn (ad oIx (aa 6) (dun dS (ac (.int 1)))) (aa 3)))))) (aG (ac (.bl false))) az) (ar (sif ((bg (ai (al k7 (ab (bI (aH (bV (aa 6) (bJ (ac (.int 1))) (bJ (dun dS (ac (.int 1)))))) (aq 0) dR (ad oIn (aa 0) (aa 1)) 1 [3]) af))) (ai (al k7 (ab (bI (aH (aa 7)) (aq 0) dR (ad oIn (aa 0) (aa 1)) 1 [4]) af))))) (aG (ac (.bl false))) az) (la (b9 (ab (ad bh (aa 3) (aa 6)) (ab (ad bh (aa 4) (aa 7)) af))) (iM 2 (bO (aq 3) (bO (aq 4) i9))))))))) (aG ((g7 (ad oEq (cT (aa 3)) (ad oIx (aa 0) (ac (.int 0)))) (ad oEq (al aV (ab (aa 4) af)) (al aV (ab (ad oIx (aa 0) (ac (.int 1))) af)))))))))
noncomputable def gF (c:CA):List D->Option D:=run 8 (rO c)
theorem qJ:Ok P w mg base 3 T.f4_.toFb (spD 3 (gF c)):=fD ["_law_met", "_law_gone", "_law_ear", "_law_points", "_law_places"] fun _ _ _ _ _ _ hr nd=>
 (ah (i0 (kN (a9 (aT (jJ dv T.h_ T.b_))) (t_eq dv (bU fE) hr) (a9 (aT (du (ip T) hr (aj dv (d1 (dx dv ae))))))) (ak (ay bu))) (ah (o4 (cL (aj (iQ fH boot_list T.h_ (d1 (dx (dx dv ae) ae))) (d1 (iQ fH boot_list T.h_ (d1 (dx (dx dv ae) ae)))))) (g2 (gn nd) (gn nd))) (ah (sf (bf (fj dv (ej ae) iG)) (gn nd) (ah (i0 (kM (a9 (aT (du (nN T) hr (aj dv (d1 dv))))) (ko (aT dv) (a9 (aT (du (ip T) hr (aj dv (d1 dv))))))) (ak (ay bu))) (ah (o4 dv (g2 (gn nd) (gn nd))) (ah (i0 (kN (t_eq dv (bU fE) hr) (t_ni (dx dv ae) dv hr) (t_ni (dx dv (fJ ae)) dv hr)) (ak (ay bu))) (ah (i0 (ko (aT (jC (c_any rfl) boot_any T.o_ (d1 (dc ["_law_point", "_law_met"] (bf (fj dv (ej ae) (ej (fJ ae)))) (fun nd _ _ _ _ _=>⟨(gn nd),cy,(c_in dv dv hr)⟩))))) (aT (jC (c_any rfl) boot_any T.o_ (d1 (dc ["_law_place", "_law_gone"] (bf dv) (fun nd _ _ _ _ _=>⟨(gn nd),cy,(c_in dv dv hr)⟩)))))) (ak (ay bu))) (ak (o4 (cL (aj (bi bq dv dv) (d1 (bi bq dv dv)))) (g2 (gn nd) (gn nd))))))))) (ak (ay ((fC (c_eq (fZ rfl dv rfl T.d_ rfl T.e_) (dx dv ae) hr) (g8 (c_eq (bE T.d_ dv) (bE T.d_ (dx dv ae)) hr)))))))))
noncomputable def qK (c:CA):FS:=(ar (sif ((bg (aP (ai (ax (e7 c) (aa 2)))) (ai (ad oEq (ax (eW c) (aa 2)) (ax (ib c) (aa 2)))))) (aG (ac (.bl false))) az) (ar (sif ((bg (ai (ax (gc c) (aa 2))) (bg (ai (ax (e8 c) (aa 2))) (ai (ad kj ((dalt (bH c.Ears "shows" 2 (bb c) (aa 2) (ab (aa 1) af)) (bH c.Bar "shows" 2 (bT c) (aa 2) (ab (aa 1) af)))) (ac (.bl true))))))) (aG (ac (.bl false))) az) (ar (sif (ai (ax (eW c) (aa 2))) (aG (av 3 (gF c) (ab (aa 0) (ab (bZ (isC c.Ears) "ears" (aa 2)) (ab (ac (.bl false)) af))))) az) (ar (sif ((bg (aP (ai (av 2 (gE c) (ab (bZ (isC c.Bar) "points" (aa 2)) (ab (ad oIx (aa 0) (ac (.int 0))) af))))) (aP (ai (cw oLt oLt (ac (.int 0)) (al aV (ab (bZ (isC c.Bar) "points" (aa 2)) af)) (ad oIx (aa 0) (ac (.int 0)))))))) (aG (ac (.bl false))) az) (aG (ad oLt (av 2 (cR c) (ab (ad oIx (aa 0) (ac (.int 1))) (ab (bZ (isC c.Bar) "points" (aa 2)) af))) (ac (.int 2))))))))
noncomputable def eK (c:CA):List D->Option D:=run 3 (qK c)
theorem pK:Ok P w mg base 6 T.g4_.toFb (spD 3 (eK c)):=fD [] fun _ _ _ _ _ _ hr nd=>
 (ah (i0 (ko (a9 (aT (ii_c dv T.d1_ (K_Answer T) T.b_))) (t_eq (ii_c dv T.p_ (K_Ears T) T.b_) (ii_c dv T.s_ (K_Bar T) T.b_) hr)) (ak (ay bu))) (ah (i0 (kN (aT (ii_c dv T.u_ (K_Joint T) T.b_)) (aT (ii_c dv T.f1_ (K_Turned T) T.b_)) (tc2 oa ((de_alt (dm T.p_.cls (fR T) hr dv (d1 dv)) (dm T.s_.cls (gz T) hr dv (d1 dv)))) bu)) (ak (ay bu))) (ah (i0 (aT (ii_c dv T.p_ (K_Ears T) T.b_)) (ak (ay (du (qJ T) hr (aj dv (aj (df dv T.p_.cls T.q_) (d1 bu))))))) (ah (i0 (ko (a9 (aT (du (nJ T) hr (aj (df dv T.s_.cls T.t_) (d1 (dx dv ae)))))) (a9 (jv bC bC ae (bE T.d_ (df dv T.s_.cls T.t_)) (dx dv ae)))) (ak (ay bu))) (ak (ay (dc2 bC (du (im T) hr (aj (dx dv ae) (d1 (df dv T.s_.cls T.t_)))) ae)))))))
noncomputable def F_law (c:CA) (K:Frag):FS:=(ar (sset 1 (av 2 (jj c) (ab (ad bh (jd K 0 (bW c K) (ac (.int 0))) (ad cr (ac (.int 31)) (jd K 0 (bW c K) (ac (.int 1))))) (ab (ac (.int 2)) af)))) (ar (sset 2 (al dI (ab (ad oIx (aa 1) (ac (.int 1))) af))) (ar (mC 2 3 (fu c.Web 2 (bL c) (ab (ad oIx (aa 1) (ac (.int 0))) (ab (aa 2) af)))) (ar (sif ((bg (ai (ad oNe (aa 2) (ad oIx (aa 1) (ac (.int 1))))) (bg (ai (ad oNe (bZ (isC c.Web) "points" (aa 3)) (ad oIx (aa 1) (ac (.int 0))))) (ai (ad oNe ((bH c.Web "ties" 1 (aW c) (aa 3) af)) (ad oIx (aa 1) (ac (.int 1)))))))) (aG (ac (.bl false))) az) (ar (de 2 (b9 (ab (ac (.int 0)) (ab (ac (.int 1)) af)))) (ar (sappT ((jf c.Web "ties" 1 (eJ c) (aa 3) af)) (ac (.int 0))) (ar (sset 4 (bV (ad oIx (aa 1) (ac (.int 1))) (bJ (ac (.int 1))) eG)) (ar (bN (gM (ab (ac (.int 2)) af)) (aq 5) (ar (sif ((cx (ai (ad oEq (aa 5) (ac (.int 1)))) (ai (ad oGt (ad oIx (aa 1) (ac (.int 0))) (ac (.int 2)))))) (gP (dnw (cP 1 (cc c) (ab (aa 3) af)))) az) (ar (jE 6 (cP 1 (jU c) (ab (aa 3) af))) (ar (jF 6 (aP (ai (av 3 (eK c) (ab (aa 1) (ab (aa 3) (ab (aa 6) af)))))) (aG (ac (.bl false))) az) (ar (i8 4 (mq 6 7 ((g7 (ax (ib c) (aa 6)) (ad oLt (av 2 (cR c) (ab (aa 4) (ab (bZ (isC c.Bar) "points" (aa 6)) af))) (ac (.int 2))))))) (ar (i8 4 (jF 6 ((cx (ai (ad oNe (ad oIx (aa 1) (ac (.int 1))) (bX af))) (ai (ad oNe ((dalt (bH c.Ears "shows" 2 (bb c) (aa 6) (ab (dnw (fu c.Web 2 (bL c) (ab (ad oIx (aa 1) (ac (.int 0))) (ab (aa 4) af)))) af)) (bH c.Bar "shows" 2 (bT c) (aa 6) (ab (dnw (fu c.Web 2 (bL c) (ab (ad oIx (aa 1) (ac (.int 0))) (ab (aa 4) af)))) af)))) (aa 7))))) (aG (ac (.bl false))) az)) (ar (jF 6 (ai (ax (eW c) (aa 6))) (ar (kL 6 ((([]++[.f c.Ears "ears"])++[.x 0])++[.x 0]) (ac (.int 0))) (smut 6 ([]++[.f c.Ears "ears"]) og)) (kL 6 ([]++[.f c.Bar "points"]) (ac (.int 0)))) (jF 6 (ai (ad kj ((dalt (bH c.Ears "shows" 2 (bb c) (aa 6) (ab (aa 3) af)) (bH c.Bar "shows" 2 (bT c) (aa 6) (ab (aa 3) af)))) (ac (.bl false)))) (aG (ac (.bl false))) az)))))))) (aG (ad oEq ((bH c.Web "ties" 1 (aW c) (aa 3) af)) (ad oIx (aa 1) (ac (.int 1)))))))))))))
noncomputable def m_law (c:CA) (K:Frag):List Int->Option D:=runL 8 K (F_law c K)
theorem ok_law:Ok P w mg base 7 T.law.toFb (spL K (m_law c K)):=fL ["_law_told_here", "_law_handed", "_law_web", "_law_less", "_law_again", "_law_found", "_law_due"] fun _ _ _ _ _ _ hr nd=>
 (ah (sA nd (du (qI T) hr (aj (bi bq (duS (il T) hr (pv 0) ae) (bi eS ae (duS (il T) hr (pv 0) ae))) (d1 ae)))) (ah (sA nd (iQ fH boot_list T.h_ (d1 (dx dv ae)))) (ah (stSB nd (nk T.f_ (eQ T) hr (aj (dx dv ae) (d1 dv)))) (ah (i0 (kN (je dv (dx dv ae) hr) (je (df dv T.f_.cls T.g_) (dx dv ae) hr) (je ((dm0 T.f_.cls (cA T) hr dv)) (dx dv ae) hr)) (ak (ay bu))) (ah (cE (pv 2) (cL (aj ae (d1 ae)))) (ah (rG ((dmF0 T.f_.cls (pD T) hr dv)) ae) (ah (sA nd (fj (dx dv ae) (ej ae) iG)) (ah (sf (ir T.i_ ae) (gn nd) (ah (i0 (kM (t_eq dv ae hr) (tc2 ja (dx dv ae) ae)) (ak (pb (de_dn (nu (nH T) hr (d1 dv)))))) (ah (stN nd (nu (ok_eared T) hr (d1 dv))) (ah (iB0 (a9 (aT (du (pK T) hr (aj dv (aj dv (d1 dv)))))) (ak (ay bu))) (ah (fG (stB nd ((fC (ii_c dv T.s_ (K_Bar T) T.b_) (g8 (dc2 bC (du (im T) hr (aj dv (d1 (df dv T.s_.cls T.t_)))) ae)))))) (ah (fG (iB0 (kM (je (dx dv ae) (bU fE) hr) (je ((de_alt (dm T.p_.cls (fR T) hr dv (d1 (de_dn (nk T.f_ (eQ T) hr (aj (dx dv ae) (d1 dv)))))) (dm T.s_.cls (gz T) hr dv (d1 (de_dn (nk T.f_ (eQ T) hr (aj (dx dv ae) (d1 dv)))))))) dv hr)) (ak (ay bu)))) (ah (ds_ifB (aT (ii_c dv T.p_ (K_Ears T) T.b_)) (ah (mr (dp_ix (n:=0) (dp_ix (n:=0) (dp_fld (C:=c.Ears) (dp_var (pv 6)) ⟨T.p_.cls,T.q_⟩) pe_int (fun _ _=>rfl)) pe_int (fun _ _=>rfl)) ae) (ak (ds_mpop (dp_fld (C:=c.Ears) (dp_var (pv 6)) ⟨T.p_.cls,T.q_⟩)))) (ak (mr (dp_fld (C:=c.Bar) (dp_var (pv 6)) ⟨T.s_.cls,T.t_⟩) ae))) (ak (iB0 (tc2 oa ((de_alt (dm T.p_.cls (fR T) hr dv (d1 dv)) (dm T.s_.cls (gz T) hr dv (d1 dv)))) bu) (ak (ay bu))))))))))) (ak (ay (c_eq ((dm0 T.f_.cls (cA T) hr dv)) (dx dv ae) hr)))))))))))
end
end Pg
end
section
namespace Pg
open PySem PySem.Spec L2 Ew Mx
variable (c:CA)
noncomputable def bo:big=100000:=rfl
@[simp] theorem cV (k:DSt->Option Res) (δ:DSt):Res.loop k (.nx δ)=k δ:=rfl
@[simp] theorem loop_rt (k:DSt->Option Res) (r:R):Res.loop k (.rt r)=some (.rt r):=rfl
section
variable {P:Type} [DecidableEq P] (A:Enc P)
noncomputable def om:FS:=sif ((cx (ai (ad oEq (ad oIx (aa 4) (ac (.int 0))) (ad oIx (aa 2) (aa 3)))) (ai (ad oNotIn (ad oIx (aa 4) (ac (.int 1))) (aa 2))))) (de 2 (ad oIx (aa 4) (ac (.int 1)))) az
theorem mP (hA:A.k<=15) {σ:Type} (es:σ->D) (pr:σ->P×P) (hes:∀ s,∃ rest,es s=.tup (A.e (pr s).1::A.e (pr s).2::rest)) {e0 e1:Option E} {k:Nat} {p:P} :
  ∀ (L:List σ) (f:List P) (x:Option E),f[k]?=some p->f.length+L.length<=1000->
  ∃ x',ba (aq 4) om (L.map es) [e0,e1,some (.ow (f.map A.e)),some (.sh (.int k)),x]=some (.nx [e0,e1,some (.ow ((ia (L.map pr) p f).map A.e)),some (.sh (.int k)),x'])
 | [],f,x,_,_=>⟨x,rfl⟩
 | s::L,f,x,hk,hl=>by
  obtain ⟨rest,er⟩:=hes s;have hk2:(f.map A.e)[k]?=some (A.e p):=by rw [List.getElem?_map,hk];rfl
  have hb:om [e0,e1,some (.ow (f.map A.e)),some (.sh (.int k)),some (.sh (es s))]=some (.nx [e0,e1,some (.ow ((eO p f (pr s)).map A.e)),some (.sh (.int k)),some (.sh (es s))]):=by
   unfold om eO;rw [er];simp only [cp,lF,cb,ki,dW,jb,uj,ug,ud,bj,view_bw,oIx_t,kI,dz,eH,jh,hk2,Option.map_some,A.oEq hA,bool_bl,A.oNotIn hA];by_cases h1:(pr s).1=p
   ·by_cases h2:(pr s).2∈f
    ·simp [h1,h2]
    ·have:f.length<=big:=by rw [bo];simp at hl;omega
     simp [h1,h2,de,eH,this]
   ·simp [h1]
  obtain ⟨x',ih⟩:=mP hA es pr hes (e0:=e0) (e1:=e1) (k:=k) (p:=p) L (eO p f (pr s)) (some (.sh (es s))) (by
   unfold eO;split
   ·rw [List.getElem?_append_left]
    ·exact hk
    ·exact (List.getElem?_eq_some_iff.mp hk).1
   ·exact hk) (by
   unfold eO;simp at hl;split
   ·simp;omega
   ·omega)
  refine ⟨x',?_⟩;rw [List.map_cons];unfold ba;have hg:aq 4 (es s) [e0,e1,some (.ow (f.map A.e)),some (.sh (.int k)),x]=some [e0,e1,some (.ow (f.map A.e)),some (.sh (.int k)),some (.sh (es s))]:=rfl;rw [hg];show (om _).bind _=_;rw [hb];exact ih
noncomputable def whileR (n:Nat):FS:=cZ (ai (ad oLt (aa 3) (al aV (ab (aa 2) af)))) (ar (bN (aH (aa 1)) (aq 4) om) (k9 (·+·) 3 (ac (.int 1)))) n
theorem iU (hA:A.k<=15) {σ:Type} (es:σ->D) (pr:σ->P×P) (hes:∀ s,∃ rest,es s=.tup (A.e (pr s).1::A.e (pr s).2::rest)) {e0:Option E} (L:List σ) (b:P) (hL:L.length<=100) :
  ∀ (n k:Nat) (f:List P) (x:Option E),RInv (L.map pr) b f->k<=f.length->L.length+2<=n+k->
  ∃ k' x',whileR n [e0,some (.sh (.lst (L.map es))),some (.ow (f.map A.e)),some (.sh (.int k)),x]=some (.nx [e0,some (.sh (.lst (L.map es))),some (.ow ((kP (L.map pr) n k f).map A.e)),k',x'])
 | 0,k,f,x,I,hk,hn=>by
  have h2:=List.Nodup.length_le_of_subset (l₂:=b::(L.map pr).map (·.2)) I.nd (by
   intro p hp;rcases I.sub p hp with e | ⟨s,hs,e⟩
   ·simp [e]
   ·simp only [List.mem_cons,List.mem_map];exact .inr ⟨s,List.mem_map.1 hs,e⟩)
  simp at h2;omega
 | n+1,k,f,x,I,hk,hn=>by
  have hfl:f.length<=L.length+1:=by
   have h2:=List.Nodup.length_le_of_subset (l₂:=b::(L.map pr).map (·.2)) I.nd (by
    intro p hp;rcases I.sub p hp with e | ⟨s,hs,e⟩
    ·simp [e]
    ·simp only [List.mem_cons,List.mem_map];exact .inr ⟨s,List.mem_map.1 hs,e⟩)
   simpa using h2
  unfold whileR cZ;have ht:(ai (ad oLt (aa 3) (al aV (ab (aa 2) af)))) [e0,some (.sh (.lst (L.map es))),some (.ow (f.map A.e)),some (.sh (.int k)),x]=some (decide (k<f.length)):=by
   simp
  rw [ht];simp only [ud];cases hp:f[k]? with
  | none=>
   have:¬k<f.length:=by rw [List.getElem?_eq_none_iff] at hp;omega
   refine ⟨some (.sh (.int k)),x,?_⟩;rw [if_neg (by simpa using this)];unfold kP;rw [hp]
  | some p=>
   have hk2:k<f.length:=(List.getElem?_eq_some_iff.mp hp).1;rw [if_pos (by simpa using hk2)];obtain ⟨x',hin⟩:=mP A hA es pr hes (e0:=e0) (e1:=some (.sh (.lst (L.map es)))) (k:=k) (p:=p) L f x hp (by omega);obtain ⟨i1,⟨e1,j1⟩,i3⟩:=kr (p:=p) (L.map pr) f (fun _ h=>h) I (List.mem_of_getElem? hp);have vf:(ar (bN (aH (aa 1)) (aq 4) om) (k9 (·+·) 3 (ac (.int 1)))) [e0,some (.sh (.lst (L.map es))),some (.ow (f.map A.e)),some (.sh (.int k)),x] =
     some (.nx [e0,some (.sh (.lst (L.map es))),some (.ow ((ia (L.map pr) p f).map A.e)),some (.sh (.int ((k+1:Nat):Int))),x']):=by
    simp only [dX,bN,cq,dW,uj,ug,ud,gw,bj];simp only [Bool.false_eq_true,if_false,ud];rw [hin];simp [k9]
   rw [vf];simp only [ud,cV];obtain ⟨k',x'',ih⟩:=iU hA es pr hes (e0:=e0) L b hL n (k+1) (ia (L.map pr) p f) x' i1 (by rw [j1];simp;omega) (by omega);refine ⟨k',x'',?_⟩;have e2:kP (L.map pr) (n+1) k f=kP (L.map pr) n (k+1) (ia (L.map pr) p f):=by
    show (match f[k]? with | none=>f | some p=>_)=_;rw [hp]
   rw [e2];exact ih
theorem mQ (hA:A.k<=15) {σ:Type} (es:σ->D) (pr:σ->P×P) (hes:∀ s,∃ rest,es s=.tup (A.e (pr s).1::A.e (pr s).2::rest)) (L:List σ) (b:P) (hL:L.length<=90) :
  da c [A.e b,.lst (L.map es)]=some (.lst ((reach 100 (L.map pr) b).map A.e)):=by
 obtain ⟨k',x',h⟩:=iU A hA es pr hes (e0:=some (.sh (A.e b))) L b (by omega) 100 0 [b] none ⟨by simp,by simp,by simp,by intro Q h _ p hp;simp at hp;rw [hp];exact h⟩ (by simp) (by omega);have hF:oj c=ar (sset 2 (bX (ab (aa 0) af))) (ar (sset 3 (ac (.int 0))) (ar (whileR 100) (jy 2))):=rfl;have h0:[some (E.sh (A.e b)),some (.sh (.lst (L.map es))),some (.ow ([b].map A.e)),some (.sh (.int (0:Nat))),none]=[some (E.sh (A.e b)),some (.sh (.lst (L.map es))),some (.ow [A.e b]),some (.sh (.int 0)),none]:=rfl;rw [h0] at h;have h1:(1:Nat)<=big:=by rw [bo];omega
 simp only [da,run_e,hF,dX,sset_e,dlst_e,aE,fK,dW,jb,List.map_cons,List.map_nil,List.length_cons,List.length_nil,List.cons_append,List.nil_append,List.replicate,uj,ug,ud,n9,qp,gw,bj,ent_fr,ent_sh,thn_nx];simp [h1];rw [h];simp [reach]
end
section
variable {P N:Type} [DecidableEq P] [DecidableEq N] (A:Enc P) (B:Enc N)
noncomputable def bc (w:Wlk P N):D:=.tup [.lst (w.1.map A.e),.lst (w.2.map B.e)]
theorem tri_e (s:P×P×N):(A.tri B).e s=.tup [A.e s.1,A.e s.2.1,B.e s.2.2]:=rfl
theorem be {k:Nat} {F:FS} {ds:List D} {δ:DSt} {r:R} (h0:ds.map (fun d=>some (E.sh d))++List.replicate (k-ds.length) none=δ) (h:F δ=some (.rt r)) (hb:r.isBw=false):Ew.run k F ds=some r.view:=by
 unfold Ew.run;rw [h0,h];simp [hb]
theorem dG {fi:DSt->Option (List D)} {g:GD} {t:DSt->Option Bool} {fe:FE} {m:Nat} {ix:List Nat} {δ:DSt} {items out:List D} (h1:fi δ=some items) (h2:items.length<=1000) (h3:cO g t fe (dIn m ix δ) items=some out) :
  bI fi g t fe m ix δ=some (.fr out):=by
 unfold bI;rw [h1];show (if items.length<=big then _ else _)=_;rw [if_pos (by rw [bo];omega),h3];rfl
theorem call1 {m:List D->Option D} {f1:FE} {δ:DSt} {r1:R} {d:D} (h1:f1 δ=some r1) (hm:m [r1.view]=some d) (hb:r1.isBw=false\/d.flat=true):av 1 m (ab f1 af) δ=some (.sh d):=by
 simp only [o5,aE,fK,h1,ud,lG,List.map_cons,List.map_nil,hm];rw [if_pos];exact ⟨rfl,hb.imp (fun h=>by simp [h]) id⟩
theorem call2 {m:List D->Option D} {f1 f2:FE} {δ:DSt} {r1 r2:R} {d:D} (h1:f1 δ=some r1) (h2:f2 δ=some r2) (hm:m [r1.view,r2.view]=some d) (hb:(r1.isBw=false/\r2.isBw=false)\/d.flat=true):av 2 m (ab f1 (ab f2 af)) δ=some (.sh d):=by
 simp only [o5,aE,fK,h1,h2,ud,lG,List.map_cons,List.map_nil,hm];rw [if_pos];exact ⟨rfl,hb.imp (fun h=>by simp [h]) id⟩
theorem call3 {m:List D->Option D} {f1 f2 f3:FE} {δ:DSt} {r1 r2 r3:R} {d:D} (h1:f1 δ=some r1) (h2:f2 δ=some r2) (h3:f3 δ=some r3) (hm:m [r1.view,r2.view,r3.view]=some d) (hb:(r1.isBw=false/\r2.isBw=false/\r3.isBw=false)\/d.flat=true):av 3 m (ab f1 (ab f2 (ab f3 af))) δ=some (.sh d):=by
 simp only [o5,aE,fK,h1,h2,h3,ud,lG,List.map_cons,List.map_nil,hm];rw [if_pos];exact ⟨rfl,hb.imp (fun h=>by simp [h]) id⟩
theorem cs1 {m:List D->Option D} {f1:FE} {δ:DSt} {d1 d:D} (h1:f1 δ=some (.sh d1)) (hm:m [d1]=some d):av 1 m (ab f1 af) δ=some (.sh d):=call1 h1 hm (.inl rfl)
theorem cs2 {m:List D->Option D} {f1 f2:FE} {δ:DSt} {d1 d2 d:D} (h1:f1 δ=some (.sh d1)) (h2:f2 δ=some (.sh d2)) (hm:m [d1,d2]=some d):av 2 m (ab f1 (ab f2 af)) δ=some (.sh d):=call2 h1 h2 hm (.inl ⟨rfl,rfl⟩)
theorem cs3 {m:List D->Option D} {f1 f2 f3:FE} {δ:DSt} {d1 d2 d3 d:D} (h1:f1 δ=some (.sh d1)) (h2:f2 δ=some (.sh d2)) (h3:f3 δ=some (.sh d3)) (hm:m [d1,d2,d3]=some d):av 3 m (ab f1 (ab f2 (ab f3 af))) δ=some (.sh d):=call3 h1 h2 h3 hm (.inl ⟨rfl,rfl,rfl⟩)
theorem bA {o:D->D->Option R} {fa fb:FE} {δ:DSt} {a b:R} {x:Option R} (h1:fa δ=some a) (h2:fb δ=some b) (h:o a.view b.view=x):ad o fa fb δ=x:=by
 rw [ki,h1,h2];exact h
theorem bs {o:D->D->Option R} {fa fb:FE} {δ:DSt} {a b:D} {x:Option R} (h1:fa δ=some (.sh a)) (h2:fb δ=some (.sh b)) (h:o a b=x):ad o fa fb δ=x:=bA h1 h2 h
theorem gX {f:FE} {δ:DSt} {r:R} (h:f δ=some r) (hb:r.isBw=false):aG f δ=some (.rt r):=by
 rw [o7,h];simp [hb]
theorem dh {i:Nat} {f:FE} {δ δ':DSt} {r:R} {en:E} (h:f δ=some r) (he:r.ent=some en) (hd:δ.set i (some en)=δ'):sset i f δ=some (.nx δ'):=by
 rw [sset_e,h,ud,he,ud,hd]
theorem seq1 {F G:FS} {δ δ1:DSt} {x:Option Res} (h:F δ=some (.nx δ1)) (h2:G δ1=x):ar F G δ=x:=by
 rw [dX,h,ud,thn_nx,h2]
theorem gG (hB:B.k<=9) (L:bn P N) (ns:List N) (hL:L.length<=1000) :
  bF c [.lst (L.map (A.tri B).e),.lst (ns.map B.e)]=some (.lst ((am L ns).map (A.tri B).e)):=by
 refine be (r:=.fr _) rfl ?_ rfl;have:=dG (fi:=aH (aa 0)) (g:=aq 0) (t:=ai (ad oNotIn (ad oIx (aa 0) (ac (.int 2))) (aa 1))) (fe:=aa 0) (m:=1) (ix:=[1]) (δ:=[some (.sh (.lst (L.map (A.tri B).e))),some (.sh (.lst (ns.map B.e)))]) rfl (by simpa using hL) (dr _ _ _ _ (A.tri B).e (fun s=>decide (s.2.2∉ns)) (A.tri B).e L (fun s _=>by
  refine ⟨_,rfl,?_,fun _=>⟨.sh ((A.tri B).e s),rfl,rfl,rfl⟩⟩;simp [dIn,tri_e,atI_2,B.oNotIn (show B.k<=15 by omega)]))
 show aG _ _=_;rw [o7];erw [this];rfl
theorem cut1 (ds:List D):cutD ds (some 1) none=ds.tail:=by
 unfold cutD HT.sIx;cases ds with
 | nil=>simp
 | cons d ds=>
  simp
theorem jV (xs ys:List D) (h:xs.length+ys.length<=1000):bh (.lst xs) (.lst ys)=some (.fr (xs++ys)):=by
 show (if xs.length+ys.length<=big then _ else _)=_;rw [if_pos (by rw [bo];omega)]
end
section
variable {P N:Type} [DecidableEq P] [DecidableEq N] (A:Enc P) (B:Enc N)
noncomputable def mR:FS:=sif ((cx (ai (ad oEq (ad oIx (aa 7) (ac (.int 0))) (ad oIx (aa 6) (dun dS (ac (.int 1)))))) (ai (ad oNotIn (ad oIx (aa 7) (ac (.int 1))) (aa 4))))) (ar (de 4 (ad oIx (aa 7) (ac (.int 1)))) (de 3 (b9 (ab (ad bh (aa 6) (bX (ab (ad oIx (aa 7) (ac (.int 1))) af))) (ab (ad bh (ad oIx (ad oIx (aa 3) (aa 5)) (ac (.int 1))) (bX (ab (ad oIx (aa 7) (ac (.int 2))) af))) af))))) az
theorem pM (i:Int):dS (.int i)=some (.sh (.int (-i))):=rfl
theorem walk_body (hA:A.k<=9) (hB:B.k<=9) {e0 e1 e2:Option E} {k:Nat} {w:Wlk P N} {b:P} (hb:w.1.getLast?=some b) (s:P×P×N) (q:List (Wlk P N)×List P) (hk:q.1[k]?=some w)
  (l1:q.1.length<=900) (l2:q.2.length<=900) (l3:w.1.length<=900) (l4:w.2.length<=900) :
  mR [e0,e1,e2,some (.ow (q.1.map (bc A B))),some (.ow (q.2.map A.e)),some (.sh (.int k)),some (.sh (.lst (w.1.map A.e))),some (.sh ((A.tri B).e s))] =
   some (.nx [e0,e1,e2,some (.ow ((scan1 w q s).1.map (bc A B))),some (.ow ((scan1 w q s).2.map A.e)),some (.sh (.int k)),some (.sh (.lst (w.1.map A.e))),some (.sh ((A.tri B).e s))]):=by
 have hk2:(q.1.map (bc A B))[k]?=some (bc A B w):=by rw [List.getElem?_map,hk];rfl
 have hlast:(w.1.map A.e).getLast?=some (A.e b):=by rw [getLast?_map',hb];rfl
 have hA':A.k<=15:=by omega
 have b1:(1:Nat)<=big:=by rw [bo];omega
 have b2:(2:Nat)<=big:=by rw [bo];omega
 have b3:q.2.length<=big:=by rw [bo];omega
 have b4:q.1.length<=big:=by rw [bo];omega
 unfold mR scan1;rw [tri_e];simp only [cp,lF,cb,ki,dun_e,dW,jb,uj,ug,ud,bj,view_bw,oIx_t,kI,dz,eH,jh,pM,pB,hlast,Option.map_some,A.oEq hA',bool_bl,A.oNotIn hA'];by_cases h1:s.1=b
 ·by_cases h2:s.2.1∈q.2
  ·simp [h1,h2,hb]
  ·have a1:=jV (w.1.map A.e) [A.e s.2.1] (by simp;omega);have a2:=jV (w.2.map B.e) [B.e s.2.2] (by simp;omega);simp [h1,h2,hb,de,eH,atI_2,jh,hk2,b1,b2,b3,b4,bc,a1,a2]
 ·have h3:¬b=s.1:=fun e=>h1 e.symm;simp [h1,hb,h3]
theorem oo (w:Wlk P N) (q:List (Wlk P N)×List P) (s:P×P×N):(scan1 w q s).1.length<=q.1.length+1/\(scan1 w q s).2.length<=q.2.length+1:=by
 unfold scan1;split
 ·simp
 ·constructor <;> omega
theorem walk_in (hA:A.k<=9) (hB:B.k<=9) {e0 e1 e2:Option E} {k:Nat} {w:Wlk P N} {b:P} (hb:w.1.getLast?=some b) (l3:w.1.length<=900) (l4:w.2.length<=900) :
  ∀ (L:bn P N) (q:List (Wlk P N)×List P) (x:Option E),q.1[k]?=some w->q.1.length+L.length<=900->q.2.length+L.length<=900->
  ∃ x',ba (aq 7) mR (L.map (A.tri B).e) [e0,e1,e2,some (.ow (q.1.map (bc A B))),some (.ow (q.2.map A.e)),some (.sh (.int k)),some (.sh (.lst (w.1.map A.e))),x] =
   some (.nx [e0,e1,e2,some (.ow ((scan L w q).1.map (bc A B))),some (.ow ((scan L w q).2.map A.e)),some (.sh (.int k)),some (.sh (.lst (w.1.map A.e))),x'])
 | [],q,x,_,_,_=>⟨x,rfl⟩
 | s::L,q,x,hk,h1,h2=>by
  simp at h1 h2;have hbd:=walk_body A B hA hB (e0:=e0) (e1:=e1) (e2:=e2) hb s q hk (by omega) (by omega) l3 l4;obtain ⟨x',ih⟩:=walk_in hA hB (e0:=e0) (e1:=e1) (e2:=e2) hb l3 l4 L (scan1 w q s) (some (.sh ((A.tri B).e s))) (by
   unfold scan1;split
   ·rw [List.getElem?_append_left]
    ·exact hk
    ·exact (List.getElem?_eq_some_iff.mp hk).1
   ·exact hk) (by have:=oo w q s;omega) (by have:=oo w q s;omega)
  refine ⟨x',?_⟩;rw [List.map_cons];unfold ba;have hg:aq 7 ((A.tri B).e s) [e0,e1,e2,some (.ow (q.1.map (bc A B))),some (.ow (q.2.map A.e)),some (.sh (.int k)),some (.sh (.lst (w.1.map A.e))),x]=some [e0,e1,e2,some (.ow (q.1.map (bc A B))),some (.ow (q.2.map A.e)),some (.sh (.int k)),some (.sh (.lst (w.1.map A.e))),some (.sh ((A.tri B).e s))]:=rfl;rw [hg];show (mR _).bind _=_;rw [hbd];exact ih
noncomputable def gH (n:Nat):FS:=cZ (ai (ad oLt (aa 5) (al aV (ab (aa 3) af)))) (ar (sset 6 (ad oIx (ad oIx (aa 3) (aa 5)) (ac (.int 0)))) (ar (sif (ai (ad oIn (ad oIx (aa 6) (dun dS (ac (.int 1)))) (aa 2))) (aG (ad oIx (aa 3) (aa 5))) az) (ar (bN (aH (aa 0)) (aq 7) mR) (k9 (·+·) 5 (ac (.int 1)))))) n
noncomputable def outW:Option (Wlk P N)->D
 | none=>.non
 | some w=>bc A B w
theorem mS (hA:A.k<=9) (hB:B.k<=9) {e1:Option E} (L:bn P N) (a:P) (ends:List P) (hL:L.length<=300) :
  ∀ (n k:Nat) (q:List (Wlk P N)×List P) (x6 x7:Option E),Inv L L ends a q->k<=q.1.length->L.length+2<=n+k->
  match bfs L ends n k q with
  | some w=>gH n [some (.sh (.lst (L.map (A.tri B).e))),e1,some (.sh (.lst (ends.map A.e))),some (.ow (q.1.map (bc A B))),some (.ow (q.2.map A.e)),some (.sh (.int k)),x6,x7]=some (.rt (.sh (bc A B w)))
  | none=>∃ δ,gH n [some (.sh (.lst (L.map (A.tri B).e))),e1,some (.sh (.lst (ends.map A.e))),some (.ow (q.1.map (bc A B))),some (.ow (q.2.map A.e)),some (.sh (.int k)),x6,x7]=some (.nx δ)
 | 0,k,q,x6,x7,I,hk,hn=>by have:=pq I;omega
 | n+1,k,q,x6,x7,I,hk,hn=>by
  have hql:=pq I;have hq2:q.2.length=q.1.length:=by have:=congrArg List.length I.ls;simpa using this.symm
  have ht:(ai (ad oLt (aa 5) (al aV (ab (aa 3) af)))) [some (.sh (.lst (L.map (A.tri B).e))),e1,some (.sh (.lst (ends.map A.e))),some (.ow (q.1.map (bc A B))),some (.ow (q.2.map A.e)),some (.sh (.int k)),x6,x7]=some (decide (k<q.1.length)):=by
   simp
  unfold bfs;cases hp:q.1[k]? with
  | none=>
   have:¬k<q.1.length:=by rw [List.getElem?_eq_none_iff] at hp;omega
   refine ⟨[some (.sh (.lst (L.map (A.tri B).e))),e1,some (.sh (.lst (ends.map A.e))),some (.ow (q.1.map (bc A B))),some (.ow (q.2.map A.e)),some (.sh (.int k)),x6,x7],?_⟩;unfold gH cZ;rw [ht];simp only [ud];rw [if_neg (by simpa using this)]
  | some w=>
   have hk2:k<q.1.length:=(List.getElem?_eq_some_iff.mp hp).1;obtain ⟨b,sw,hm⟩:=I.ok w (List.mem_of_getElem? hp);have hlast:=sw.last;have hwl:w.1.length<=q.2.length:=List.Nodup.length_le_of_subset sw.nodup hm;have hwl2:=sw.len;have hk3:(q.1.map (bc A B))[k]?=some (bc A B w):=by rw [List.getElem?_map,hp];rfl
   have hl3:(w.1.map A.e).getLast?=some (A.e b):=by rw [getLast?_map',hlast];rfl
   have s1:sset 6 (ad oIx (ad oIx (aa 3) (aa 5)) (ac (.int 0))) [some (.sh (.lst (L.map (A.tri B).e))),e1,some (.sh (.lst (ends.map A.e))),some (.ow (q.1.map (bc A B))),some (.ow (q.2.map A.e)),some (.sh (.int k)),x6,x7] =
     some (.nx [some (.sh (.lst (L.map (A.tri B).e))),e1,some (.sh (.lst (ends.map A.e))),some (.ow (q.1.map (bc A B))),some (.ow (q.2.map A.e)),some (.sh (.int k)),some (.sh (.lst (w.1.map A.e))),x7]):=by
    simp [jh,hk3,bc,dz]
   have t2:(ai (ad oIn (ad oIx (aa 6) (dun dS (ac (.int 1)))) (aa 2))) [some (.sh (.lst (L.map (A.tri B).e))),e1,some (.sh (.lst (ends.map A.e))),some (.ow (q.1.map (bc A B))),some (.ow (q.2.map A.e)),some (.sh (.int k)),some (.sh (.lst (w.1.map A.e))),x7]=some (decide (b∈ends)):=by
    simp [pM,pB,hlast,A.oIn (show A.k<=15 by omega)]
   have hli:jg ends w=decide (b∈ends):=by simp [jg,hlast]
   simp only [hli];by_cases hbe:b∈ends
   ·rw [if_pos (by simpa using hbe)];show gH (n+1) _=_;unfold gH cZ;rw [ht];simp only [ud];rw [if_pos (by simpa using hk2)];have:(ar (sset 6 (ad oIx (ad oIx (aa 3) (aa 5)) (ac (.int 0)))) (ar (sif (ai (ad oIn (ad oIx (aa 6) (dun dS (ac (.int 1)))) (aa 2))) (aG (ad oIx (aa 3) (aa 5))) az) (ar (bN (aH (aa 0)) (aq 7) mR) (k9 (·+·) 5 (ac (.int 1)))))) [some (.sh (.lst (L.map (A.tri B).e))),e1,some (.sh (.lst (ends.map A.e))),some (.ow (q.1.map (bc A B))),some (.ow (q.2.map A.e)),some (.sh (.int k)),x6,x7]=some (.rt (.sh (bc A B w))):=by
     refine seq1 s1 ?_;rw [dX,cp,t2];simp [hbe,jh,hk3]
    rw [this];rfl
   ·rw [if_neg (by simpa using hbe)];obtain ⟨i1,⟨e',j1⟩,⟨e'',j2⟩,i4⟩:=mD sw hbe L q (fun _ h=>h) I hm;obtain ⟨x',hin⟩:=walk_in A B hA hB (e0:=some (.sh (.lst (L.map (A.tri B).e)))) (e1:=e1) (e2:=some (.sh (.lst (ends.map A.e)))) hlast (by omega) (by omega) L q x7 hp (by omega) (by omega);have vf:(ar (sset 6 (ad oIx (ad oIx (aa 3) (aa 5)) (ac (.int 0)))) (ar (sif (ai (ad oIn (ad oIx (aa 6) (dun dS (ac (.int 1)))) (aa 2))) (aG (ad oIx (aa 3) (aa 5))) az) (ar (bN (aH (aa 0)) (aq 7) mR) (k9 (·+·) 5 (ac (.int 1)))))) [some (.sh (.lst (L.map (A.tri B).e))),e1,some (.sh (.lst (ends.map A.e))),some (.ow (q.1.map (bc A B))),some (.ow (q.2.map A.e)),some (.sh (.int k)),x6,x7] =
      some (.nx [some (.sh (.lst (L.map (A.tri B).e))),e1,some (.sh (.lst (ends.map A.e))),some (.ow ((scan L w q).1.map (bc A B))),some (.ow ((scan L w q).2.map A.e)),some (.sh (.int ((k+1:Nat):Int))),some (.sh (.lst (w.1.map A.e))),x']):=by
     refine seq1 s1 ?_;refine seq1 (δ1:=[some (.sh (.lst (L.map (A.tri B).e))),e1,some (.sh (.lst (ends.map A.e))),some (.ow (q.1.map (bc A B))),some (.ow (q.2.map A.e)),some (.sh (.int k)),some (.sh (.lst (w.1.map A.e))),x7]) ?_ ?_
     ·rw [cp,t2];simp [hbe]
     ·refine seq1 (δ1:=[some (.sh (.lst (L.map (A.tri B).e))),e1,some (.sh (.lst (ends.map A.e))),some (.ow ((scan L w q).1.map (bc A B))),some (.ow ((scan L w q).2.map A.e)),some (.sh (.int k)),some (.sh (.lst (w.1.map A.e))),x']) ?_ ?_
      ·simp only [bN,cq,dW,uj,ug,ud,gw,bj];simp only [Bool.false_eq_true,if_false,ud];exact hin
      ·simp [k9]
    have ih:=mS hA hB (e1:=e1) L a ends hL n (k+1) (scan L w q) (some (.sh (.lst (w.1.map A.e)))) x' i1 (by rw [j1];simp;omega) (by omega);have hw:gH (n+1) [some (.sh (.lst (L.map (A.tri B).e))),e1,some (.sh (.lst (ends.map A.e))),some (.ow (q.1.map (bc A B))),some (.ow (q.2.map A.e)),some (.sh (.int k)),x6,x7] =
      gH n [some (.sh (.lst (L.map (A.tri B).e))),e1,some (.sh (.lst (ends.map A.e))),some (.ow ((scan L w q).1.map (bc A B))),some (.ow ((scan L w q).2.map A.e)),some (.sh (.int ((k+1:Nat):Int))),some (.sh (.lst (w.1.map A.e))),x']:=by
     show cZ _ _ (n+1) _=_;unfold cZ;rw [ht];simp only [ud];rw [if_pos (by simpa using hk2),vf];rfl
    rw [hw];exact ih
theorem gj (hA:A.k<=9) (hB:B.k<=9) (L:bn P N) (a:P) (ends:List P) (hL:L.length<=90) :
  bQ c [.lst (L.map (A.tri B).e),A.e a,.lst (ends.map A.e)]=some (outW A B (cY 100 L a ends)):=by
 have h:=mS A B hA hB (e1:=some (.sh (A.e a))) L a ends (by omega) 100 0 ([([a],[])],[a]) none none ⟨by simp,by simp,by intro w hw;simp at hw;subst hw;exact ⟨a,.nil,by simp⟩,by simp,by simp⟩ (by simp) (by omega);have hF:eP c=ar (sset 3 (bX (ab (b9 (ab (bX (ab (aa 1) af)) (ab (bX af) af))) af))) (ar (sset 4 (bX (ab (aa 1) af))) (ar (sset 5 (ac (.int 0))) (ar (gH 100) (aG (ac .non))))):=rfl;have b0:(0:Nat)<=big:=by omega
 have b1:(1:Nat)<=big:=by rw [bo];omega
 have b2:(2:Nat)<=big:=by rw [bo];omega
 have hst:∀ x,(gH 100 [some (.sh (.lst (L.map (A.tri B).e))),some (.sh (A.e a)),some (.sh (.lst (ends.map A.e))),some (.ow [bc A B ([a],[])]),some (.ow [A.e a]),some (.sh (.int 0)),none,none])=x->
   eP c [some (.sh (.lst (L.map (A.tri B).e))),some (.sh (A.e a)),some (.sh (.lst (ends.map A.e))),none,none,none,none,none]=x.bind (Res.thn (aG (ac .non))):=by
  intro x hx;rw [hF];refine seq1 (δ1:=[some (.sh (.lst (L.map (A.tri B).e))),some (.sh (A.e a)),some (.sh (.lst (ends.map A.e))),some (.ow [bc A B ([a],[])]),none,none,none,none]) (by simp [b1,b2,bc]) ?_;refine seq1 (δ1:=[some (.sh (.lst (L.map (A.tri B).e))),some (.sh (A.e a)),some (.sh (.lst (ends.map A.e))),some (.ow [bc A B ([a],[])]),some (.ow [A.e a]),none,none,none]) (by simp [b1]) ?_;refine seq1 (δ1:=[some (.sh (.lst (L.map (A.tri B).e))),some (.sh (A.e a)),some (.sh (.lst (ends.map A.e))),some (.ow [bc A B ([a],[])]),some (.ow [A.e a]),some (.sh (.int 0)),none,none]) (by simp) ?_;rw [dX,hx]
 unfold cY;cases hb:bfs L ends 100 0 ([([a],[])],[a]) with
 | some w=>
  rw [hb] at h;have:=hst _ h;exact be (r:=.sh (bc A B w)) rfl this rfl
 | none=>
  rw [hb] at h;obtain ⟨δ,h⟩:=h;have:=hst _ h;exact be (r:=.sh .non) rfl this rfl
end
abbrev Tie:=Int×Int
abbrev ET:Enc Tie:=Enc.int.par Enc.int
abbrev aw (t:Tie):D:=.tup [.int t.1,.int t.2]
abbrev ao (ns:List Int):D:=.lst (ns.map .int)
abbrev eWk (w:Wlk Int Int):D:=bc Enc.int Enc.int w
noncomputable def aX (n:Int) (T:List Tie):D:=.obj c.Web [("points",.int n),("pairs",.lst (T.map aw))]
abbrev si (i:Int):Option E:=some (.sh (.int i))
abbrev sI (ns:List Int):Option E:=some (.sh (ao ns))
abbrev sK (w:Wlk Int Int):Option E:=some (.sh (eWk w))
abbrev sW (n:Int) (T:List Tie):Option E:=some (.sh (aX c n T))
theorem ky {A:Type} {a b:A}:List.lookup ("points" : Str) [("points",a),("pairs",b)]=some a:=rfl
theorem qL {A:Type} {a b:A}:List.lookup ("pairs" : Str) [("points",a),("pairs",b)]=some b:=rfl
theorem lk_ties {A:Type} {a b:A}:List.lookup ("ties" : Str) [("points",a),("pairs",b)]=none:=rfl
noncomputable def aN (n:Int) (T:List Tie):Prop:=1<=n/\n<=8/\T.length<=14/\∀ t∈T,0<=t.1/\t.1<t.2/\t.2<n
theorem gI (i:Int):c9 c [.int i]=some (.bl true):=by
 simp [c9,kR,ax,dU,is_bool]
noncomputable def mT (n p:Int):Bool:=decide (0<=p)&&decide (p<n)
theorem pN (n p:Int) (T:List Tie):eI c [aX c n T,.int p]=some (.bl (mT n p)):=by
 unfold mT;by_cases h:0<=p <;> simp [eI,kS,aX,h,ky]
theorem ties_eq (n:Int) (T:List Tie):aW c [aX c n T]=some (.lst (T.map aw)):=by
 simp [aW,gy,aX,qL]
theorem db {f:FE} {δ:DSt} {n:Int} {T:List Tie} (h:f δ=some (.sh (aX c n T))):bH c.Web "ties" 1 (aW c) f af δ=some (.sh (.lst (T.map aw))):=by
 have:=ties_eq c n T;unfold aX at this h;simp [h,lk_ties,this]
theorem jW (p q:Int):(if q<p then q else p)=min p q:=by split <;> omega
theorem lL (p q:Int):(if q>p then q else p)=max p q:=by split <;> omega
noncomputable def fT (p q:Int):Tie:=(min p q,max p q)
theorem mU (p q:Int):eA c [.int p,.int q]=some (aw (fT p q)):=by
 have:(2:Nat)<=big:=by decide
 simp only [eA,iT,aw,fT,<-jW,<-lL];simp [this]
noncomputable def pts (n:Int):List Int:=(List.range n.toNat).map fun (k:Nat)=>(k:Int)
theorem eC (n:Int) (T:List Tie) (h:0<=n) (h2:n<=1000):bD c [aX c n T]=some (ao (pts n)):=by
 have e:(-1000000:Int)<=0/\(0:Int)<=1000000/\-1000000<=n/\n<=1000000:=by omega
 simp only [bD,jQ,run_e,o7,fk,aE,fK,o6,dW,aX];simp [ky,rngD,e,ao,pts]
noncomputable def isSet (n:Int) (ps:List Int):Bool:=decide (ps=(pts n).filter ps.contains)
theorem eD (n:Int):(pts n).length=n.toNat:=by unfold pts;simp
theorem eE {n p:Int}:p∈pts n↔0<=p/\p<n:=by
 unfold pts;rw [List.mem_map];constructor
 ·rintro ⟨k,hk,rfl⟩;rw [List.mem_range] at hk;omega
 ·rintro ⟨h1,h2⟩;exact ⟨p.toNat,by rw [List.mem_range];omega,by omega⟩
theorem iK (n:Int):(pts n).Nodup:=iR List.nodup_range (fun x _ y _ e=>by omega)
theorem lg (n:Int) (T:List Tie) (ps:List Int) (h:0<=n) (h2:n<=100):dA c [aX c n T,ao ps]=some (.bl (isSet n ps)):=by
 have a:=eC c n T h (by omega);have hb:(pts n).length<=1000:=by rw [eD];omega
 have cm:=dG (fi:=aH (av 1 (bD c) (ab (aa 0) af))) (g:=aq 0) (t:=ai (ad oIn (aa 0) (aa 1))) (fe:=aa 0) (m:=1) (ix:=[1]) (δ:=[some (.sh (aX c n T)),some (.sh (ao ps))]) (items:=(pts n).map .int) (by
   rw [cq,cs1 rfl a];rfl) (by simpa using hb) (dr _ _ _ _ D.int ps.contains D.int (pts n) (fun x _=>by
  refine ⟨_,rfl,?_,fun _=>⟨.sh (.int x),rfl,rfl,rfl⟩⟩;simp [dIn,ao]))
 refine be (r:=.sh (.bl (isSet n ps))) rfl (gX (bA (a:=.sh (ao ps)) rfl cm ?_) rfl) rfl;show oEq (.lst (ps.map .int)) (.lst (((pts n).filter ps.contains).map .int))=_;rw [jD];rfl
noncomputable def cM (ps:List Int) (t:Tie):Bool:=decide (t.1∈ps) != decide (t.2∈ps)
noncomputable def pO (T:List Tie) (ps:List Int):List Int:=(T.filter (cM ps)).map fun t=>if t.1∈ps then t.2 else t.1
theorem pP (a b:Bool):oNe (.bl a) (.bl b)=some (.sh (.bl (a != b))):=by
 cases a <;> cases b <;> rfl
theorem mV (n:Int) (T:List Tie) (ps:List Int) (hT:T.length<=1000):cH c [aX c n T,ao ps]=some (ao (pO T ps)):=by
 have c1:=dG (fi:=aH ((bH c.Web "ties" 1 (aW c) (aa 0) af))) (g:=aq 0) (t:=ai (ad oNe (ad oIn (ad oIx (aa 0) (ac (.int 0))) (aa 1)) (ad oIn (ad oIx (aa 0) (ac (.int 1))) (aa 1)))) (fe:=aa 0) (m:=1) (ix:=[1]) (δ:=[some (.sh (aX c n T)),some (.sh (ao ps)),none]) (items:=T.map aw) (by
   rw [cq,db c (f:=aa 0) rfl];rfl) (by simpa using hT) (dr _ _ _ _ aw (cM ps) aw T (fun t _=>by
  refine ⟨_,rfl,?_,fun _=>⟨.sh (aw t),rfl,rfl,rfl⟩⟩;simp [dIn,ao,dz,eH,pP,cM]))
 have c2:=dG (fi:=aH (aa 2)) (g:=aq 0) (t:=dR) (fe:=dif (ai (ad oIn (ad oIx (aa 0) (ac (.int 0))) (aa 1))) (ad oIx (aa 0) (ac (.int 1))) (ad oIx (aa 0) (ac (.int 0)))) (m:=1) (ix:=[1]) (δ:=[some (.sh (aX c n T)),some (.sh (ao ps)),some (.sh (.lst ((T.filter (cM ps)).map aw)))]) rfl (by simp;exact Nat.le_trans (List.length_filter_le _ _) hT) (dr _ _ _ _ aw (fun _=>true) (fun t=>.int (if t.1∈ps then t.2 else t.1)) (T.filter (cM ps)) (fun t _=>by
  refine ⟨_,rfl,rfl,fun _=>⟨.sh (.int (if t.1∈ps then t.2 else t.1)),?_,rfl,rfl⟩⟩;by_cases h:t.1∈ps <;> simp [dIn,ao,dz,eH,h]))
 have e1:((T.filter (cM ps)).filter fun _=>true)=T.filter (cM ps):=by simp
 rw [e1] at c2;refine be (r:=.fr _) rfl (seq1 (dh c1 rfl rfl) ?_) rfl;rw [dq];refine (gX c2 rfl).trans ?_;unfold pO;rw [List.map_map];rfl
theorem rP (T:List Tie) (ps:List Int):(pO T ps).length=(T.filter (cM ps)).length:=by simp [pO]
theorem d0:∀ ns:List Int,nums (ns.map .int)=some ns
 | []=>rfl
 | n::ns=>by simp only [List.map_cons,nums,d0 ns];rfl
theorem iL:∀ bs:List Bool,bls (bs.map .bl)=some bs
 | []=>rfl
 | b::bs=>by simp only [List.map_cons,bls,iL bs];rfl
theorem jX:∀ (ns acc:List Int),acc.Nodup->(ns.foldl step_dedup acc).Nodup/\(ns.foldl step_dedup acc).length<=acc.length+ns.length/\
  ((ns.foldl step_dedup acc).length=acc.length+ns.length↔(acc++ns).Nodup)/\∀ x,x∈ns.foldl step_dedup acc↔x∈acc\/x∈ns
 | [],acc,h=>by simp [h]
 | n::ns,acc,h=>by
  rw [List.foldl_cons];by_cases hm:n∈acc
  ·have e:step_dedup acc n=acc:=by
    unfold step_dedup;rw [if_pos];rw [List.any_eq_true];exact ⟨n,hm,by simp⟩
   rw [e];obtain ⟨i1,i2,i3,i4⟩:=jX ns acc h;refine ⟨i1,by simp;omega,?_,?_⟩
   ·constructor
    ·intro he;simp at he;omega
    ·intro hn;rw [List.nodup_append] at hn;exact absurd rfl (hn.2.2 n hm n (by simp))
   ·intro x;rw [i4];constructor
    ·rintro (h | h)
     ·exact .inl h
     ·exact .inr (by simp [h])
    ·rintro (h | h)
     ·exact .inl h
     ·simp at h;rcases h with rfl | h
      ·exact .inl hm
      ·exact .inr h
  ·have e:step_dedup acc n=acc++[n]:=by
    unfold step_dedup;rw [if_neg];intro ha;rw [List.any_eq_true] at ha;obtain ⟨x,hx,ex⟩:=ha;simp at ex;subst ex;exact hm hx
   rw [e];obtain ⟨i1,i2,i3,i4⟩:=jX ns (acc++[n]) (by
    rw [List.nodup_append];refine ⟨h,by simp,?_⟩;intro a ha b hb eab;simp at hb;subst hb;subst eab;exact hm ha)
   refine ⟨i1,by simp at i2 ⊢;omega,?_,?_⟩
   ·simp only [List.length_append,List.length_cons,List.length_nil,List.append_assoc,List.cons_append,List.nil_append] at i3;rw [<-i3];simp only [List.length_cons];omega
   ·intro x;rw [i4];simp [or_assoc]
theorem mW (ns:List Int):((gv ns).length=ns.length)↔ns.Nodup:=by
 have:=(jX ns [] (by simp)).2.2.1;simpa [gv] using this
theorem fU (ns:List Int) (h:ns.length<=1000):cG c [ao ns]=some (.bl (decide ns.Nodup)):=by
 have e:decide (((gv ns).length:Int)=(ns.length:Int))=decide ns.Nodup:=by
  rw [decide_eq_decide,<-mW];omega
 simp [cG,jP,cT,ao,d0,h,e]
noncomputable def ap (T:List Tie):bn Int Int:=(T.zipIdx).flatMap fun p=>[(p.1.1,p.1.2,(p.2:Int)),(p.1.2,p.1.1,(p.2:Int))]
theorem bm {T:List Tie} {s:Int×Int×Int}:s∈ap T↔∃ (i:Nat) (t:Tie),T[i]?=some t/\s.2.2=(i:Int)/\((s.1=t.1/\s.2.1=t.2)\/(s.1=t.2/\s.2.1=t.1)):=by
 unfold ap;rw [List.mem_flatMap];constructor
 ·rintro ⟨p,hp,hs⟩;obtain ⟨t,i⟩:=p;have:=List.mem_zipIdx_iff_getElem?.1 hp;simp at this hs;refine ⟨i,t,this,?_⟩;rcases hs with rfl | rfl
  ·exact ⟨rfl,.inl ⟨rfl,rfl⟩⟩
  ·exact ⟨rfl,.inr ⟨rfl,rfl⟩⟩
 ·rintro ⟨i,t,h1,h2,h3⟩;refine ⟨(t,i),List.mem_zipIdx_iff_getElem?.2 h1,?_⟩;rcases s with ⟨x,y,z⟩
  simp at h2 h3 ⊢;subst h2;rcases h3 with ⟨rfl,rfl⟩ | ⟨rfl,rfl⟩
  ·exact .inl ⟨rfl,rfl,rfl⟩
  ·exact .inr ⟨rfl,rfl,rfl⟩
theorem br (T:List Tie):(ap T).length=2*T.length:=by
 unfold ap;have:∀ (T:List Tie) (k:Nat),((T.zipIdx k).flatMap fun p=>[(p.1.1,p.1.2,(p.2:Int)),(p.1.2,p.1.1,(p.2:Int))]).length=2*T.length:=by
  intro T
  induction T with
  | nil=>intro k;rfl
  | cons t T ih=>intro k;simp only [List.zipIdx_cons,List.flatMap_cons,List.length_append,ih,List.length_cons,List.length_nil];omega
 exact this T 0
theorem eY (T:List Tie):jN (ap T):=by
 intro s hs t ht e;obtain ⟨i,x,h1,h2,h3⟩:=bm.1 hs;obtain ⟨j,y,k1,k2,k3⟩:=bm.1 ht;have:i=j:=by rw [h2,k2] at e;omega
 subst this;rw [h1] at k1;cases k1;rcases s with ⟨a,b,n⟩
 rcases t with ⟨a',b',n'⟩
 simp at *;subst h2;subst k2;rcases h3 with ⟨rfl,rfl⟩ | ⟨rfl,rfl⟩ <;> rcases k3 with ⟨rfl,rfl⟩ | ⟨rfl,rfl⟩ <;> simp
theorem eL (T:List Tie):∀ s∈ap T,turned s∈ap T:=by
 intro s hs;obtain ⟨i,x,h1,h2,h3⟩:=bm.1 hs;refine bm.2 ⟨i,x,h1,h2,?_⟩;rcases h3 with ⟨a,b⟩ | ⟨a,b⟩
 ·exact .inr ⟨b,a⟩
 ·exact .inl ⟨b,a⟩
theorem jk {n:Int} {T:List Tie} (W:aN n T):∀ s∈ap T,s.1≠s.2.1:=by
 intro s hs;obtain ⟨i,x,h1,h2,h3⟩:=bm.1 hs;have:=W.2.2.2 x (List.mem_of_getElem? h1);omega
theorem bz {n:Int} {T:List Tie} (W:aN n T):∀ s∈ap T,0<=s.1/\s.1<n/\0<=s.2.1/\s.2.1<n:=by
 intro s hs;obtain ⟨i,x,h1,h2,h3⟩:=bm.1 hs;have:=W.2.2.2 x (List.mem_of_getElem? h1);omega
abbrev eSt (s:Int×Int×Int):D:=(Enc.int.tri Enc.int).e s
theorem iV {e0:Option E}:∀ (T:List Tie) (k:Nat) (acc:bn Int Int) (x2 x3:Option E),acc.length+2*T.length<=1000->
  ∃ y2 y3,ba (iM 2 (bO (aq 2) (bO (aq 3) i9))) (ar (de 1 (b9 (ab (ad oIx (aa 3) (ac (.int 0))) (ab (ad oIx (aa 3) (ac (.int 1))) (ab (aa 2) af))))) (de 1 (b9 (ab (ad oIx (aa 3) (ac (.int 1))) (ab (ad oIx (aa 3) (ac (.int 0))) (ab (aa 2) af))))))
   ((T.zipIdx k).map fun p=>D.tup [.int (p.2:Int),aw p.1]) [e0,some (.ow (acc.map eSt)),x2,x3] =
   some (.nx [e0,some (.ow ((acc++(T.zipIdx k).flatMap fun p=>[(p.1.1,p.1.2,(p.2:Int)),(p.1.2,p.1.1,(p.2:Int))]).map eSt)),y2,y3])
 | [],k,acc,x2,x3,_=>⟨x2,x3,by simp [ba]⟩
 | t::T,k,acc,x2,x3,hl=>by
  simp only [List.length_cons] at hl;obtain ⟨y2,y3,ih⟩:=iV (e0:=e0) T (k+1) (acc++[(t.1,t.2,(k:Int)),(t.2,t.1,(k:Int))]) (some (.sh (.int k))) (some (.sh (aw t))) (by simp;omega);refine ⟨y2,y3,?_⟩;have b3:(3:Nat)<=big:=by rw [bo];omega
  have b4:acc.length<=big:=by rw [bo];omega
  have b5:acc.length+1<=big:=by rw [bo];omega
  rw [List.zipIdx_cons,List.map_cons];unfold ba;have hg:iM 2 (bO (aq 2) (bO (aq 3) i9)) (D.tup [.int (k:Int),aw t]) [e0,some (.ow (acc.map eSt)),x2,x3]=some [e0,some (.ow (acc.map eSt)),some (.sh (.int k)),some (.sh (aw t))]:=rfl;rw [hg];simp only [ud];have hb:(ar (de 1 (b9 (ab (ad oIx (aa 3) (ac (.int 0))) (ab (ad oIx (aa 3) (ac (.int 1))) (ab (aa 2) af))))) (de 1 (b9 (ab (ad oIx (aa 3) (ac (.int 1))) (ab (ad oIx (aa 3) (ac (.int 0))) (ab (aa 2) af))))))
    [e0,some (.ow (acc.map eSt)),some (.sh (.int k)),some (.sh (aw t))]=some (.nx [e0,some (.ow ((acc++[(t.1,t.2,(k:Int)),(t.2,t.1,(k:Int))]).map eSt)),some (.sh (.int k)),some (.sh (aw t))]):=by
   simp [de,dz,eH,b3,b4,b5,tri_e,Enc.int]
  rw [hb];simp only [ud,cV];rw [ih];simp
theorem iq (n:Int) (T:List Tie) (hT:T.length<=400):cB c [aX c n T]=some (.lst ((ap T).map eSt)):=by
 obtain ⟨y2,y3,h⟩:=iV (e0:=some (.sh (aX c n T))) T 0 [] none none (by simp;omega);refine be (r:=.fr _) rfl ?_ rfl;refine seq1 (δ1:=[some (.sh (aX c n T)),some (.ow []),none,none]) (by simp) ?_;refine seq1 (δ1:=[some (.sh (aX c n T)),some (.ow ((ap T).map eSt)),y2,y3]) ?_ rfl;have hi:(mh (ab ((bH c.Web "ties" 1 (aW c) (aa 0) af)) af)) [some (.sh (aX c n T)),some (.ow []),none,none]=some ((T.zipIdx 0).map fun p=>D.tup [.int (p.2:Int),aw p.1]):=by
  unfold mh;rw [aE,db c (f:=aa 0) rfl];simp only [ud,fK,gw,bj,Bool.false_eq_true,if_false,uk];congr 1;refine List.ext_getElem? fun i=>?_;rw [List.getElem?_zipWith,List.getElem?_map,List.getElem?_map,List.getElem?_zipIdx];by_cases hi:i<T.length
  ·rw [List.getElem?_range hi,List.getElem?_eq_getElem hi];simp
  ·rw [List.getElem?_eq_none (show (List.range T.length).length<=i by simp;omega),List.getElem?_eq_none (show T.length<=i by omega)];rfl
 unfold bN;rw [hi];exact h
theorem iu {P N:Type} {w:Wlk P N} (h:w.1.length=w.2.length+1) {k:Nat} (hk:k<w.2.length) :
  (w.1[k]'(by omega),w.1[k+1]'(by omega),w.2[k])∈a0 w:=by
 unfold a0;have:(w.1.zip (w.1.tail.zip w.2))[k]?=some (w.1[k]'(by omega),w.1[k+1]'(by omega),w.2[k]):=by
  rw [List.getElem?_zip_eq_some];refine ⟨List.getElem?_eq_getElem (by omega),?_⟩;rw [List.getElem?_zip_eq_some];refine ⟨?_,List.getElem?_eq_getElem hk⟩;rw [List.getElem?_tail];exact List.getElem?_eq_getElem (by omega)
 exact List.mem_of_getElem? this
structure gJ (n:Int) (T:List Tie) (w:Wlk Int Int):Prop where
 len:w.1.length=w.2.length+1
 pt:∀ p∈w.1,0<=p/\p<n
 st:∀ s∈a0 w,s∈ap T
 sm:w.2.length<=100
theorem gJ.tie {n:Int} {T:List Tie} (W:aN n T) {w:Wlk Int Int} (h:gJ n T w) {k:Nat} (hk:k<w.2.length) :
  0<=w.2[k]/\w.2[k]<(T.length:Int)/\T[(w.2[k]).toNat]?=some (fT (w.1[k]'(by have:=h.len;omega)) (w.1[k+1]'(by have:=h.len;omega))):=by
 obtain ⟨i,t,h1,h2,h3⟩:=bm.1 (h.st _ (iu h.len hk));have hb:=W.2.2.2 t (List.mem_of_getElem? h1);have hi:=(List.getElem?_eq_some_iff.mp h1).1;simp only at h2 h3;refine ⟨by omega,by omega,?_⟩;rw [h2];have e:((i:Int).toNat)=i:=by simp
 rw [e,h1];unfold fT;rcases t with ⟨a,b⟩
 simp only at hb h3;congr 1;rcases h3 with ⟨e1,e2⟩ | ⟨e1,e2⟩
 ·rw [e1,e2];exact Prod.ext (by simp;omega) (by simp;omega)
 ·rw [e1,e2];exact Prod.ext (by simp;omega) (by simp;omega)
theorem all_true {f:DSt->Option (List R)} {δ:DSt} {α:Type} {xs:List α} (h:f δ=some [.fr (xs.map fun _=>D.bl true)]):al iN f δ=some (.sh (.bl true)):=by
 rw [b7,h];simp only [ud,view_fr];unfold iN;have e:(xs.map fun _=>D.bl true)=(xs.map fun _=>true).map D.bl:=by rw [List.map_map];rfl
 rw [e];show (bls ((xs.map fun _=>true).map D.bl)).map _=_;rw [iL];simp
theorem jY {α:Type} {xs:List α} {i:Int} (h0:0<=i):atI xs i=xs[i.toNat]?:=by
 obtain ⟨k,rfl⟩ : ∃ k:Nat,i=k:=⟨i.toNat,by omega⟩;rw [jh];rfl
theorem oEq_tie (s t:Tie):oEq (aw s) (aw t)=some (.sh (.bl (decide (s=t)))):=ET.oEq (show max 1 1+1<=15 by decide) s t
theorem oNe_tie (s t:Tie):oNe (aw s) (aw t)=some (.sh (.bl (!decide (s=t)))):=ET.oNe (show max 1 1+1<=15 by decide) s t
theorem dN {f:FE} {δ:DSt} {w:Wlk Int Int} (h:f δ=some (.sh (eWk w))):ad oIx f (ac (.int 0)) δ=some (.sh (ao w.1)):=bA h rfl (by simp [eWk,bc,dz,ao,Enc.int])
theorem iW {f:FE} {δ:DSt} {w:Wlk Int Int} (h:f δ=some (.sh (eWk w))):ad oIx f (ac (.int 1)) δ=some (.sh (ao w.2)):=bA h rfl (by simp [eWk,bc,eH,ao,Enc.int])
theorem pQ {fa fb:FE} {δ:DSt} {x:Option R} (h1:fa δ=some (.sh (.bl true))) (h2:fb δ=x):g7 fa fb δ=x:=by rw [dand_e,h1];exact h2
theorem kU {e0:Option E}:∀ (ws:List (Wlk Int Int)) (acc:List Int) (x:Option E),acc.length+(ws.flatMap (·.2)).length<=1000->
  ∃ y,ba (aq 2) (k8 1 (ad oIx (aa 2) (ac (.int 1)))) (ws.map eWk) [e0,some (.ow (acc.map .int)),x]=some (.nx [e0,some (.ow ((acc++ws.flatMap (·.2)).map .int)),y])
 | [],acc,x,_=>⟨x,by simp [ba]⟩
 | w::ws,acc,x,h=>by
  simp only [List.flatMap_cons,List.length_append] at h;obtain ⟨y,ih⟩:=kU (e0:=e0) ws (acc++w.2) (some (.sh (eWk w))) (by simp only [List.length_append];omega);refine ⟨y,?_⟩;rw [List.map_cons];unfold ba;have hg:aq 2 (eWk w) [e0,some (.ow (acc.map .int)),x]=some [e0,some (.ow (acc.map .int)),sK w]:=rfl;rw [hg];simp only [ud];have hb:k8 1 (ad oIx (aa 2) (ac (.int 1))) [e0,some (.ow (acc.map .int)),sK w]=some (.nx [e0,some (.ow ((acc++w.2).map .int)),sK w]):=by
   unfold k8;show (ad oIx (aa 2) (ac (.int 1)) _).bind _=_;rw [iW (w:=w) rfl];show (if (acc.map D.int).length+(w.2.map D.int).length<=big then _ else _)=_;rw [if_pos (by rw [bo];simp only [uk];omega)];simp
  rw [hb];simp only [ud,cV];rw [ih];simp
theorem pR (ws:List (Wlk Int Int)) (h:(ws.flatMap (·.2)).length<=1000):ie c [.lst (ws.map eWk)]=some (ao (ws.flatMap (·.2))):=by
 obtain ⟨y,hl⟩:=kU (e0:=some (.sh (.lst (ws.map eWk)))) ws [] none (by simpa using h);refine be (r:=.fr _) rfl ?_ rfl;refine seq1 (δ1:=[some (.sh (.lst (ws.map eWk))),some (.ow []),none]) (by simp) ?_;refine seq1 (δ1:=[some (.sh (.lst (ws.map eWk))),some (.ow ((ws.flatMap (·.2)).map .int)),y]) ?_ rfl;simp only [bN,cq,dW,uj,ug,ud,gw,bj];simp only [Bool.false_eq_true,if_false,ud];exact hl
theorem ff (ns:List Int):(ns.map D.int).all D.flat=true:=by
 rw [List.all_map];simp [Function.comp_def]
theorem lh (ws:List (Wlk Int Int)) (h:ws.length<=1000):dB c [.lst (ws.map eWk)]=some (.lst (ws.map eWk)):=by
 have b2:(2:Nat)<=big:=by decide
 have hb:ws.length<=big:=by rw [bo];omega
 have cm:=qt (aq 0) dR (ntup (dY (dL (al dI (ab (ad oIx (aa 0) (ac (.int 0))) af))) (dY (dL (al dI (ab (ad oIx (aa 0) (ac (.int 1))) af))) mn))) (dIn 1 [] [some (.sh (.lst (ws.map eWk)))]) eWk (fun _=>true) eWk ws (fun w _=>by
  refine ⟨_,rfl,rfl,fun _=>?_⟩;have f1:=ff w.1;have f2:=ff w.2;simp only [List.all_map] at f1 f2;simp [dIn,eWk,bc,dz,eH,Enc.int,b2] at f1 f2 ⊢)
 rw [List.filter_eq_self.2 (fun _ _=>rfl)] at cm;simp [dB,ic,hb];erw [cm];rfl
theorem qM {n:Int} {t:Tie} (h:0<=t.1/\t.1<t.2/\t.2<n):gi c [aw t,.int n]=some (.bl true):=by
 have h1:=gI c t.1;have h2:=gI c t.2;have e1:(0:Int)<=t.1:=h.1;have e2:t.1<t.2:=h.2.1;have e3:t.2<n:=h.2.2;simp [gi,qG,ax,fq,aV,dz,eH,h1,h2,e1,e2,e3]
theorem qN {n:Int} {T:List Tie} (W:aN n T):bL c [.int n,.lst (T.map aw)]=some [((("points" : Str)),D.int n),(("pairs" : Str),D.lst (T.map aw))]:=by
 obtain ⟨w1,w2,w3,w4⟩:=W;refine lI fun p=>?_;have b2:(2:Nat)<=big:=by decide
 have hb:T.length<=big:=by rw [bo];omega
 have hn:=gI c n;have cm:=qt (aq 0) dR (ntup (dY (dL (ad oIx (aa 0) (ac (.int 0)))) (dY (dL (ad oIx (aa 0) (ac (.int 1)))) mn))) (dIn 1 [] [some (.on p (.obj c.Web [(("points" : Str),D.int n)])),some (.sh (.int n)),some (.sh (.lst (T.map aw)))]) aw (fun _=>true) aw T (fun t _=>by
  refine ⟨_,rfl,rfl,fun _=>?_⟩;simp [dIn,dz,eH,b2])
 rw [List.filter_eq_self.2 (fun _ _=>rfl)] at cm;have c1:=dG (fi:=aH (aa 2)) (g:=aq 0) (t:=dR) (fe:=av 2 (gi c) (ab (aa 0) (ab (aa 1) af))) (m:=1) (ix:=[1]) (δ:=[some (.on p (.obj c.Web [])),some (.sh (.int n)),some (.sh (.lst (T.map aw)))]) (items:=T.map aw) rfl (by simp;omega) (dr _ _ _ _ aw (fun _=>true) (fun _=>D.bl true) T (fun t ht=>by
  refine ⟨_,rfl,rfl,fun _=>⟨.sh (.bl true),?_,rfl,rfl⟩⟩;exact cs2 rfl rfl (qM c (w4 t ht))))
 rw [List.filter_eq_self.2 (fun _ _=>rfl)] at c1;have a1:=all_true (f:=ab (bI (aH (aa 2)) (aq 0) dR (av 2 (gi c) (ab (aa 0) (ab (aa 1) af))) 1 [1]) af) (δ:=[some (.on p (.obj c.Web [])),some (.sh (.int n)),some (.sh (.lst (T.map aw)))]) (xs:=T) (by rw [aE,c1];rfl);have hF:dD c [some (.on p (.obj c.Web [])),some (.sh (.int n)),some (.sh (.lst (T.map aw)))]=some (.nx [some (.on p (.obj c.Web [(("points" : Str),D.int n),(("pairs" : Str),D.lst (T.map aw))])),some (.sh (.int n)),some (.sh (.lst (T.map aw)))]):=by
  refine seq1 (δ1:=[some (.on p (.obj c.Web [])),some (.sh (.int n)),some (.sh (.lst (T.map aw)))]) ?_ (seq1 (δ1:=[some (.on p (.obj c.Web [])),some (.sh (.int n)),some (.sh (.lst (T.map aw)))]) ?_ (seq1 (δ1:=[some (.on p (.obj c.Web [])),some (.sh (.int n)),some (.sh (.lst (T.map aw)))]) ?_ (seq1 (δ1:=[some (.on p (.obj c.Web [(("points" : Str),D.int n)])),some (.sh (.int n)),some (.sh (.lst (T.map aw)))]) ?_ ?_)))
  ·simp [hn,w1,w2]
  ·have:¬((14:Int)<(T.length:Int)):=by omega
   simp [ax,cF,this]
  ·rw [cp,eT,cb,a1];rfl
  ·simp
  ·have hlk:List.lookup ("pairs" : Str) [(("points" : Str),D.int n)]=none:=rfl;simp [hlk,hb];erw [cm];rfl
 have e:h7 3 c.Web (dD c) [.int n,.lst (T.map aw)] p=(match dD c [some (.on p (.obj c.Web [])),some (.sh (.int n)),some (.sh (.lst (T.map aw)))] with
  | some (.nx (some (.on a (.obj C' fs))::_))=>if a=p/\C'=c.Web then some fs else none
  | _=>none):=rfl
 rw [e,hF];simp
theorem qO {n:Int} {T:List Tie} (W:aN n T) {fr:DSt->Option (List R)} {δ:DSt} {r1 r2:R} (h:fr δ=some [r1,r2]) (h1:r1.view=.int n) (h2:r2.view=.lst (T.map aw)) (b1:r1.isBw=false) (b2:r2.isBw=false) :
  fu c.Web 2 (bL c) fr δ=some (aX c n T):=by
 simp only [jH,h,ud,List.map_cons,List.map_nil,h1,h2,qN c W,n9,qp,b1,b2];simp [aX]
theorem jZ (ns:List Int) (h:ns.length<64):eu (.lst (ns.map .int))=some (.fr ((srt ns).map .int)):=by
 show (nums (ns.map .int)).bind _=_;rw [d0];simp [h]
theorem mulR {i j:Int} (h0:0<=j) (h1:j<=1000000):cr (.int i) (.int j)=some (.sh (.int (i*j))):=by
 unfold cr;simp only;rw [if_pos (.inr ⟨Int.lt_of_lt_of_le (by decide) h0,Int.lt_of_le_of_lt h1 (by decide)⟩)]
theorem mulL {i j:Int} (h0:0<=i) (h1:i<=1000000):cr (.int i) (.int j)=some (.sh (.int (i*j))):=by
 unfold cr;simp only;rw [if_pos (.inl ⟨Int.lt_of_lt_of_le (by decide) h0,Int.lt_of_le_of_lt h1 (by decide)⟩)]
theorem modP {i j:Int} (h:0<j):oMod (.int i) (.int j)=some (.sh (.int (i % j))):=by
 unfold oMod;simp only;rw [if_pos h]
noncomputable def iv:List Int:=[1000003,1000033,1000037,1000039,1000081,1000099,1000117,1000121,1000133,1000151,1000159,1000171,1000183,1000187,1000193,1000199]
theorem draw_eq (cell:Int) (k:Nat) (hk:k<16) {many:Int} (hm:0<many):∃ r,aL c [.int cell,.int k,.int many]=some (.int r)/\0<=r/\r<many:=by
 obtain ⟨p,hp,hp0⟩ : ∃ p,iv[k]?=some p/\0<p:=by
  have:∀ p∈iv,0<p:=by decide
  exact ⟨iv[k]'(by simpa [iv] using hk),by simp [iv] at hk ⊢,this _ (List.getElem_mem _)⟩
 refine ⟨(cell*48271+(k:Int)*69621) % p % many,?_,Int.emod_nonneg _ (by omega),Int.emod_lt_of_pos _ hm⟩;have b16:(16:Nat)<=big:=by decide
 have hs:sset 3 (b9 (ab (ac (.int 1000003)) (ab (ac (.int 1000033)) (ab (ac (.int 1000037)) (ab (ac (.int 1000039)) (ab (ac (.int 1000081)) (ab (ac (.int 1000099)) (ab (ac (.int 1000117)) (ab (ac (.int 1000121)) (ab (ac (.int 1000133)) (ab (ac (.int 1000151)) (ab (ac (.int 1000159)) (ab (ac (.int 1000171)) (ab (ac (.int 1000183)) (ab (ac (.int 1000187)) (ab (ac (.int 1000193)) (ab (ac (.int 1000199)) af))))))))))))))))) [some (.sh (.int cell)),some (.sh (.int k)),some (.sh (.int many)),none] =
   some (.nx [some (.sh (.int cell)),some (.sh (.int k)),some (.sh (.int many)),some (.sh (.tup (iv.map .int)))]):=by
  simp [b16,iv]
 refine be (r:=.sh (.int _)) rfl (seq1 hs (gX ?_ rfl)) rfl;refine bA (a:=.sh (.int ((cell*48271+(k:Int)*69621) % p))) (b:=.sh (.int many)) ?_ rfl (modP hm);refine bA (a:=.sh (.int (cell*48271+(k:Int)*69621))) (b:=.sh (.int p)) ?_ ?_ (modP hp0)
 ·refine bA (a:=.sh (.int (cell*48271))) (b:=.sh (.int ((k:Int)*69621))) ?_ ?_ rfl
  ·exact bA (a:=.sh (.int cell)) (b:=.sh (.int 48271)) rfl rfl (mulR (by omega) (by omega))
  ·exact bA (a:=.sh (.int k)) (b:=.sh (.int 69621)) rfl rfl (mulR (by omega) (by omega))
 ·refine bA (a:=.sh (.tup (iv.map .int))) (b:=.sh (.int (k:Int))) rfl ?_ ?_
  ·refine bA (a:=.sh (.int k)) (b:=.sh (.int 16)) rfl rfl ?_;rw [show oMod (R.sh (D.int (k:Int))).view (R.sh (D.int 16)).view=_ from modP (by omega)];congr 3;omega
  ·simp only [bj,oIx_t];rw [jh,List.getElem?_map,hp];rfl
noncomputable def Good (n:Int) (T:List Tie):Prop:=∀ t∈T,0<=t.1/\t.1<t.2/\t.2<n
theorem qP {n p q:Int} (h1:0<=p) (h2:p<n) (h3:0<=q) (h4:q<n) (h5:p≠q):0<=(fT p q).1/\(fT p q).1<(fT p q).2/\(fT p q).2<n:=by
 unfold fT;simp only;omega
theorem oq {n:Int} {T:List Tie} {t:Tie} (h:Good n T) (ht:0<=t.1/\t.1<t.2/\t.2<n):Good n (T++[t]):=by
 intro u hu;simp at hu;rcases hu with hu | rfl
 ·exact h u hu
 ·exact ht
theorem mX {n:Int} {B:FS} {e0 e1 e2 e3 e5 e9:Option E} (ok:D->Prop)
  (hB:∀ d (T:List Tie) (x7 x8:Option E),ok d->Good n T->T.length<=900->∃ (T':List Tie) (y7 y8:Option E),B [e0,e1,e2,e3,some (.ow (T.map aw)),e5,some (.sh d),x7,x8,e9]=some (.nx [e0,e1,e2,e3,some (.ow (T'.map aw)),e5,some (.sh d),y7,y8,e9])/\Good n T'/\T'.length<=T.length+1) :
  ∀ (ds:List D) (T:List Tie) (x6 x7 x8:Option E),(∀ d∈ds,ok d)->Good n T->T.length+ds.length<=900->
  ∃ (T':List Tie) (y6 y7 y8:Option E),ba (aq 6) B ds [e0,e1,e2,e3,some (.ow (T.map aw)),e5,x6,x7,x8,e9]=some (.nx [e0,e1,e2,e3,some (.ow (T'.map aw)),e5,y6,y7,y8,e9])/\Good n T'/\T'.length<=T.length+ds.length
 | [],T,x6,x7,x8,_,hT,_=>⟨T,x6,x7,x8,rfl,hT,by simp⟩
 | d::ds,T,x6,x7,x8,hd,hT,hl=>by
  simp at hl;obtain ⟨T1,y7,y8,h1,h2,h3⟩:=hB d T x7 x8 (hd d (by simp)) hT (by omega);obtain ⟨T',z6,z7,z8,i1,i2,i3⟩:=mX ok hB ds T1 (some (.sh d)) y7 y8 (fun d' h=>hd d' (by simp [h])) h2 (by omega);refine ⟨T',z6,z7,z8,?_,i2,by simp;omega⟩;unfold ba;have hg:aq 6 d [e0,e1,e2,e3,some (.ow (T.map aw)),e5,x6,x7,x8,e9]=some [e0,e1,e2,e3,some (.ow (T.map aw)),e5,some (.sh d),x7,x8,e9]:=rfl;rw [hg];simp only [ud];rw [h1];simp only [ud,cV];exact i1
theorem turn_ne {n t k:Int} (h1:2<=n) (h2:n<=8) (ht:t=1\/((t=3\/t=5\/t=7)/\n % t≠0)):k*t % n≠(k+1)*t % n:=by
 have hn:n=2\/n=3\/n=4\/n=5\/n=6\/n=7\/n=8:=by omega
 rcases ht with rfl | ⟨rfl | rfl | rfl,hm⟩ <;> rcases hn with rfl | rfl | rfl | rfl | rfl | rfl | rfl <;> omega
theorem app_tie {n p q:Int} {T:List Tie} {e0 e1 e2 e3 e5 e6 e9:Option E} (hl:T.length<=900) :
  de 4 (b9 (ab (aZ dJ (ab (aa 7) (ab (aa 8) af))) (ab (aZ fg (ab (aa 7) (ab (aa 8) af))) af))) [e0,e1,e2,e3,some (.ow (T.map aw)),e5,e6,some (.sh (.int p)),some (.sh (.int q)),e9] =
   some (.nx [e0,e1,e2,e3,some (.ow ((T++[fT p q]).map aw)),e5,e6,some (.sh (.int p)),some (.sh (.int q)),e9]):=by
 have b2:(2:Nat)<=big:=by decide
 have b:T.length<=big:=by rw [bo];omega
 simp [de,b2,b,fT,<-jW,<-lL]
theorem rngE {f:FE} {δ:DSt} {j:Int} (h:f δ=some (.sh (.int j))) (h2:j<=1000000) (h1:-1000000<=j):(gM (ab f af)) δ=some ((List.range j.toNat).map fun k=>D.int (0+((k:Nat):Int))):=by
 have hc:-(2 ^ 62:Int)<=j/\j<2 ^ 62:=⟨Int.le_trans (by decide) h1,Int.lt_of_le_of_lt h2 (by decide)⟩;unfold gM;simp only [aE,fK,h,ud];rw [if_pos hc]
theorem cut14 (ds:List D):cutD ds none (some 14)=ds.take 14:=by
 unfold cutD HT.sIx;simp
noncomputable def cK (n:Int) (T:List Tie):D:=.tup [.int n,.lst (T.map aw)]
abbrev sT (n:Int) (T:List Tie):Option E:=some (.sh (cK n T))
theorem mY {ks:List Int} {r:Int} (h0:0<=r) (h1:r<(ks.length:Int)) (p:Int->Prop) (hp:∀ k∈ks,p k):∃ v,oIx (.tup (ks.map .int)) (.int r)=some (.sh (.int v))/\p v:=by
 have hr:r.toNat<ks.length:=by omega
 refine ⟨ks[r.toNat],?_,hp _ (List.getElem_mem _)⟩;rw [oIx_t,jY h0,List.getElem?_map,List.getElem?_eq_getElem hr];rfl
theorem kW {fa fm:FE} {δ:DSt} {cell many:Int} (k:Int) (hk:0<=k/\k<16) (h1:fa δ=some (.sh (.int cell))) (h2:fm δ=some (.sh (.int many))) (hm:0<many) :
  ∃ r,av 3 (aL c) (ab fa (ab (ac (.int k)) (ab fm af))) δ=some (.sh (.int r))/\0<=r/\r<many:=by
 obtain ⟨r,e,r0,r1⟩:=draw_eq c cell k.toNat (by omega) hm;rw [show ((k.toNat:Nat):Int)=k by omega] at e;exact ⟨r,cs3 h1 rfl h2 e,r0,r1⟩
theorem told_eq (cell least:Int) (hl:1<=least) (hl2:least<=8):∃ n T,jj c [.int cell,.int least]=some (cK n T)/\aN n T/\least<=n:=by
 have b8:(8:Nat)<=big:=by decide
 have b4:(4:Nat)<=big:=by decide
 have b2:(2:Nat)<=big:=by decide
 obtain ⟨r1,d1,p1,q1⟩:=kW c (fa:=aa 0) (fm:=ac (.int 8)) (δ:=[si cell,si least,none,none,none,none,none,none,none,none]) (cell:=cell) (many:=8) 1 (by omega) rfl rfl (by omega);obtain ⟨v1,x1,y1⟩:=mY (ks:=[4,5,3,6,2,7,1,8]) p1 (by simpa using q1) (fun v=>1<=v/\v<=8) (by decide);have s1:sset 2 (aZ fg (ab (aa 1) (ab (ad oIx (b9 (ab (ac (.int 4)) (ab (ac (.int 5)) (ab (ac (.int 3)) (ab (ac (.int 6)) (ab (ac (.int 2)) (ab (ac (.int 7)) (ab (ac (.int 1)) (ab (ac (.int 8)) af))))))))) (av 3 (aL c) (ab (aa 0) (ab (ac (.int 1)) (ab (ac (.int 8)) af))))) af))) [si cell,si least,none,none,none,none,none,none,none,none] =
   some (.nx [si cell,si least,some (.sh (.int (max least v1))),none,none,none,none,none,none,none]):=by
  have hx:ad oIx (b9 (ab (ac (.int 4)) (ab (ac (.int 5)) (ab (ac (.int 3)) (ab (ac (.int 6)) (ab (ac (.int 2)) (ab (ac (.int 7)) (ab (ac (.int 1)) (ab (ac (.int 8)) af))))))))) (av 3 (aL c) (ab (aa 0) (ab (ac (.int 1)) (ab (ac (.int 8)) af)))) [si cell,si least,none,none,none,none,none,none,none,none]=some (.sh (.int v1)):=bA (a:=.sh (.tup [.int 4,.int 5,.int 3,.int 6,.int 2,.int 7,.int 1,.int 8])) (by simp [b8]) d1 x1;refine dh (r:=.sh (.int (max least v1))) ?_ rfl rfl;rw [mj,aE,aE,hx];simp [<-lL]
 generalize hn:max least v1=n at s1;have n1:1<=n:=by omega
 have n8:n<=8:=by omega
 obtain ⟨kind,d2,k0,k4⟩:=kW c (fa:=aa 0) (fm:=ac (.int 4)) (δ:=[si cell,si least,si n,none,none,none,none,none,none,none]) (cell:=cell) (many:=4) 2 (by omega) rfl rfl (by omega);have s2:=dh (i:=3) d2 rfl (δ':=[si cell,si least,si n,si kind,none,none,none,none,none,none]) rfl;have s3:sset 4 (bX af) [si cell,si least,si n,si kind,none,none,none,none,none,none]=some (.nx [si cell,si least,si n,si kind,some (.ow []),none,none,none,none,none]):=by simp
 obtain ⟨r3,d3,p3,q3⟩:=kW c (fa:=aa 0) (fm:=ac (.int 4)) (δ:=[si cell,si least,si n,si kind,some (.ow []),none,none,none,none,none]) (cell:=cell) (many:=4) 3 (by omega) rfl rfl (by omega);obtain ⟨t0,x3,y3⟩:=mY (ks:=[1,3,5,7]) p3 (by simpa using q3) (fun v=>v=1\/v=3\/v=5\/v=7) (by decide);have s4:sset 5 (ad oIx (b9 (ab (ac (.int 1)) (ab (ac (.int 3)) (ab (ac (.int 5)) (ab (ac (.int 7)) af))))) (av 3 (aL c) (ab (aa 0) (ab (ac (.int 3)) (ab (ac (.int 4)) af))))) [si cell,si least,si n,si kind,some (.ow []),none,none,none,none,none] =
   some (.nx [si cell,si least,si n,si kind,some (.ow []),si t0,none,none,none,none]):=dh (bA (a:=.sh (.tup [.int 1,.int 3,.int 5,.int 7])) (by simp [b4]) d3 x3) rfl rfl
 have t0p:0<t0:=by omega
 obtain ⟨t,s5,ht⟩ : ∃ t,sif ((cx (ai (ad oEq (ad oMod (aa 2) (aa 5)) (ac (.int 0)))) (ai (ad oGt (aa 5) (ac (.int 1)))))) (sset 5 (ac (.int 1))) az [si cell,si least,si n,si kind,some (.ow []),si t0,none,none,none,none] =
   some (.nx [si cell,si least,si n,si kind,some (.ow []),si t,none,none,none,none])/\(t=1\/((t=3\/t=5\/t=7)/\n % t≠0)):=by
  by_cases h1:n % t0=0
  ·by_cases h2:1<t0
   ·exact ⟨1,by simp [modP t0p,h1,h2],.inl rfl⟩
   ·exact ⟨t0,by simp [modP t0p,h1,h2],.inl (by omega)⟩
  ·refine ⟨t0,by simp [modP t0p,h1],?_⟩;rcases y3 with rfl | h
   ·exact .inl rfl
   ·exact .inr ⟨h,h1⟩
 have tp:0<t/\t<=7:=by omega
 obtain ⟨T1,a6,a7,a8,s6,g1,l1⟩ : ∃ (T1:List Tie) (a6 a7 a8:Option E),sif ((cx (ai (ad oGt (aa 3) (ac (.int 0)))) (ai (ad oGt (aa 2) (ac (.int 1)))))) (bN (gM (ab (ad bh (ad oSub (aa 2) (ac (.int 1))) (aZ dJ (ab (ad oSub (aa 3) (ac (.int 1))) (ab (ac (.int 1)) af)))) af)) (aq 6) (ar (n5 7 8 (ad oMod (ad cr (aa 6) (aa 5)) (aa 2)) (ad oMod (ad cr (ad bh (aa 6) (ac (.int 1))) (aa 5)) (aa 2))) (de 4 (b9 (ab (aZ dJ (ab (aa 7) (ab (aa 8) af))) (ab (aZ fg (ab (aa 7) (ab (aa 8) af))) af)))))) az
   [si cell,si least,si n,si kind,some (.ow []),si t,none,none,none,none] =
   some (.nx [si cell,si least,si n,si kind,some (.ow (T1.map aw)),si t,a6,a7,a8,none])/\Good n T1/\T1.length<=100:=by
  by_cases h1:0<kind
  ·by_cases h2:1<n
   ·have hf:(ad bh (ad oSub (aa 2) (ac (.int 1))) (aZ dJ (ab (ad oSub (aa 3) (ac (.int 1))) (ab (ac (.int 1)) af)))) [si cell,si least,si n,si kind,some (.ow []),si t,none,none,none,none]=some (.sh (.int (n-1+min (kind-1) 1))):=by
     simp [<-jW]
    have hr:=rngE hf (by omega) (by omega);obtain ⟨T',y6,y7,y8,i1,i2,i3⟩:=mX (n:=n) (e0:=some (.sh (.int cell))) (e1:=some (.sh (.int least))) (e2:=some (.sh (.int n))) (e3:=some (.sh (.int kind))) (e5:=some (.sh (.int t))) (e9:=none)
     (B:=ar (n5 7 8 (ad oMod (ad cr (aa 6) (aa 5)) (aa 2)) (ad oMod (ad cr (ad bh (aa 6) (ac (.int 1))) (aa 5)) (aa 2))) (de 4 (b9 (ab (aZ dJ (ab (aa 7) (ab (aa 8) af))) (ab (aZ fg (ab (aa 7) (ab (aa 8) af))) af)))))
     (fun d=>∃ k:Int,d=.int k) (by
      rintro d T x7 x8 ⟨k,rfl⟩ hT hTl;refine ⟨T++[fT (k*t % n) ((k+1)*t % n)],_,_,seq1 (δ1:=[si cell,si least,si n,si kind,some (.ow (T.map aw)),si t,si k,some (.sh (.int (k*t % n))),some (.sh (.int ((k+1)*t % n))),none]) ?_ (app_tie (n:=n) hTl),?_,by simp⟩
      ·have m1:cr (.int k) (.int t)=some (.sh (.int (k*t))):=mulR (by omega) (by omega);have m2:cr (.int (k+1)) (.int t)=some (.sh (.int ((k+1)*t))):=mulR (by omega) (by omega);have m3:∀ i:Int,oMod (.int i) (.int n)=some (.sh (.int (i % n))):=fun i=>modP (by omega);simp [n5,m1,m2,m3]
      ·refine oq hT (qP (Int.emod_nonneg _ (by omega)) (Int.emod_lt_of_pos _ (by omega)) (Int.emod_nonneg _ (by omega)) (Int.emod_lt_of_pos _ (by omega)) (turn_ne (by omega) n8 ht)))
     ((List.range (n-1+min (kind-1) 1).toNat).map fun k=>D.int (0+((k:Nat):Int))) [] none none none (by
      intro d hd;obtain ⟨k,_,rfl⟩:=List.mem_map.1 hd;exact ⟨_,rfl⟩) (by intro u hu;simp at hu) (by simp;omega)
    refine ⟨T',y6,y7,y8,?_,i2,by simp at i3;omega⟩;rw [cp];have ht:(cx (ai (ad oGt (aa 3) (ac (.int 0)))) (ai (ad oGt (aa 2) (ac (.int 1))))) [si cell,si least,si n,si kind,some (.ow []),si t,none,none,none,none]=some true:=by simp [h1,h2]
    rw [ht];simp only [ud];rw [if_pos trivial];unfold bN;rw [hr];exact i1
   ·exact ⟨[],none,none,none,by simp [h1,h2],by intro u hu;simp at hu,by simp⟩
  ·exact ⟨[],none,none,none,by simp [h1],by intro u hu;simp at hu,by simp⟩
 obtain ⟨v9,x9,y9⟩:=mY (ks:=[9,4]) (r:=min kind 1) (by omega) (by simp;omega) (fun v=>0<v/\v<=15) (by decide);have s7:sset 9 (ad oIx (b9 (ab (ac (.int 9)) (ab (ac (.int 4)) af))) (aZ dJ (ab (aa 3) (ab (ac (.int 1)) af)))) [si cell,si least,si n,si kind,some (.ow (T1.map aw)),si t,a6,a7,a8,none] =
   some (.nx [si cell,si least,si n,si kind,some (.ow (T1.map aw)),si t,a6,a7,a8,si v9]):=dh (bs (by simp [b2]) (by simp [<-jW]) x9) rfl rfl
 obtain ⟨r8,d8,p8,q8⟩:=kW c (fa:=aa 0) (fm:=ac (.int 4)) (δ:=[si cell,si least,si n,si kind,some (.ow (T1.map aw)),si t,a6,a7,a8,si v9]) (cell:=cell) (many:=4) 8 (by omega) rfl rfl (by omega);obtain ⟨most,s8,hmost⟩ : ∃ most,sif (ai (ad oEq (av 3 (aL c) (ab (aa 0) (ab (ac (.int 8)) (ab (ac (.int 4)) af)))) (ac (.int 0)))) (sset 9 (ac (.int 15))) az [si cell,si least,si n,si kind,some (.ow (T1.map aw)),si t,a6,a7,a8,si v9] =
   some (.nx [si cell,si least,si n,si kind,some (.ow (T1.map aw)),si t,a6,a7,a8,si most])/\0<most/\most<=15:=by
  have ht:(ai (ad oEq (av 3 (aL c) (ab (aa 0) (ab (ac (.int 8)) (ab (ac (.int 4)) af)))) (ac (.int 0)))) [si cell,si least,si n,si kind,some (.ow (T1.map aw)),si t,a6,a7,a8,si v9]=some (decide (r8=0)):=by
   rw [cb,bs d8 rfl rfl];simp
  rw [cp,ht];by_cases h0:r8=0
  ·exact ⟨15,by simp [h0],by omega,by omega⟩
  ·exact ⟨v9,by simp [h0],y9.1,y9.2⟩
 obtain ⟨cnt,d9,c0,c15⟩:=kW c (fa:=aa 0) (fm:=aa 9) (δ:=[si cell,si least,si n,si kind,some (.ow (T1.map aw)),si t,a6,a7,a8,si most]) (cell:=cell) (many:=most) 4 (by omega) rfl rfl (by omega);have hr2:=rngE d9 (by omega) (by omega);obtain ⟨T2,y6,y7,y8,i1,g2,i3⟩:=mX (n:=n) (e0:=some (.sh (.int cell))) (e1:=some (.sh (.int least))) (e2:=some (.sh (.int n))) (e3:=some (.sh (.int kind))) (e5:=some (.sh (.int t))) (e9:=some (.sh (.int most)))
  (B:=ar (sset 7 (av 3 (aL c) (ab (ad cr (ad bh (aa 0) (ad cr (ac (.int 977)) (aa 6))) (ad bh (aa 6) (ac (.int 3)))) (ab (ac (.int 5)) (ab (aa 2) af))))) (ar (sset 8 (av 3 (aL c) (ab (ad cr (ad bh (aa 0) (ad cr (ac (.int 31)) (aa 6))) (ad bh (aa 6) (ac (.int 5)))) (ab (ac (.int 6)) (ab (aa 2) af))))) (sif (ai (ad oNe (aa 7) (aa 8))) (de 4 (b9 (ab (aZ dJ (ab (aa 7) (ab (aa 8) af))) (ab (aZ fg (ab (aa 7) (ab (aa 8) af))) af)))) az)))
  (fun d=>∃ k:Int,d=.int k/\0<=k/\k<=100) (by
   rintro d T x7 x8 ⟨k,rfl,kk0,kk1⟩ hT hTl;have m1:cr (.int 977) (.int k)=some (.sh (.int (977*k))):=mulL (by omega) (by omega);have m2:cr (.int 31) (.int k)=some (.sh (.int (31*k))):=mulL (by omega) (by omega);have m3:∀ i:Int,cr (.int i) (.int (k+3))=some (.sh (.int (i*(k+3)))):=fun i=>mulR (by omega) (by omega);have m4:∀ i:Int,cr (.int i) (.int (k+5))=some (.sh (.int (i*(k+5)))):=fun i=>mulR (by omega) (by omega);obtain ⟨u,du,u0,u1⟩:=kW c (fa:=ad cr (ad bh (aa 0) (ad cr (ac (.int 977)) (aa 6))) (ad bh (aa 6) (ac (.int 3)))) (fm:=aa 2) (δ:=[si cell,si least,si n,si kind,some (.ow (T.map aw)),si t,si k,x7,x8,si most]) (cell:=(cell+977*k)*(k+3)) (many:=n) 5 (by omega) (by simp [m1,m3]) rfl (by omega);obtain ⟨v,dv,v0,v1⟩:=kW c (fa:=ad cr (ad bh (aa 0) (ad cr (ac (.int 31)) (aa 6))) (ad bh (aa 6) (ac (.int 5)))) (fm:=aa 2) (δ:=[si cell,si least,si n,si kind,some (.ow (T.map aw)),si t,si k,si u,x8,si most]) (cell:=(cell+31*k)*(k+5)) (many:=n) 6 (by omega) (by simp [m2,m4]) rfl (by omega);by_cases huv:u=v
   ·refine ⟨T,si u,si v,seq1 (dh du rfl rfl) (seq1 (dh dv rfl rfl) ?_),hT,by omega⟩;show sif _ _ _ [si cell,si least,si n,si kind,some (.ow (T.map aw)),si t,si k,si u,si v,si most]=_;simp [huv]
   ·refine ⟨T++[fT u v],si u,si v,seq1 (dh du rfl rfl) (seq1 (dh dv rfl rfl) ?_),oq hT (qP u0 u1 v0 v1 huv),by simp⟩;show sif _ _ _ [si cell,si least,si n,si kind,some (.ow (T.map aw)),si t,si k,si u,si v,si most]=_;rw [cp];have ht:(ai (ad oNe (aa 7) (aa 8))) [si cell,si least,si n,si kind,some (.ow (T.map aw)),si t,si k,si u,si v,si most]=some true:=by simp [huv]
    rw [ht];exact app_tie (n:=n) hTl)
  ((List.range cnt.toNat).map fun k=>D.int (0+((k:Nat):Int))) T1 a6 a7 a8 (by
   intro d hd;obtain ⟨k,hk,rfl⟩:=List.mem_map.1 hd;rw [List.mem_range] at hk;exact ⟨_,rfl,by omega,by omega⟩) g1 (by simp;omega)
 obtain ⟨r7,d7,_,_⟩:=kW c (fa:=aa 0) (fm:=ac (.int 2)) (δ:=[si cell,si least,si n,si kind,some (.ow (T2.map aw)),si t,y6,y7,y8,si most]) (cell:=cell) (many:=2) 7 (by omega) rfl rfl (by omega);obtain ⟨T3,s10,g3⟩ : ∃ T3:List Tie,sif (ai (ad oEq (av 3 (aL c) (ab (aa 0) (ab (ac (.int 7)) (ab (ac (.int 2)) af)))) (ac (.int 0)))) (sset 4 (drev (aa 4) (dun dS (ac (.int 1))))) az [si cell,si least,si n,si kind,some (.ow (T2.map aw)),si t,y6,y7,y8,si most] =
   some (.nx [si cell,si least,si n,si kind,some (.ow (T3.map aw)),si t,y6,y7,y8,si most])/\Good n T3:=by
  have ht:(ai (ad oEq (av 3 (aL c) (ab (aa 0) (ab (ac (.int 7)) (ab (ac (.int 2)) af)))) (ac (.int 0)))) [si cell,si least,si n,si kind,some (.ow (T2.map aw)),si t,y6,y7,y8,si most]=some (decide (r7=0)):=by
   rw [cb,bs d7 rfl rfl];simp
  rw [cp,ht];by_cases h0:r7=0
  ·refine ⟨T2.reverse,?_,fun u hu=>g2 u (by simpa using hu)⟩;simp [h0,drev,pM]
  ·exact ⟨T2,by simp [h0],g2⟩
 refine ⟨n,T3.take 14,?_,⟨n1,n8,by simp;omega,fun u hu=>g3 u (List.mem_of_mem_take hu)⟩,by omega⟩;refine be (r:=.sh (cK n (T3.take 14))) rfl (seq1 s1 (seq1 s2 (seq1 s3 (seq1 s4 (seq1 s5 (seq1 s6 (seq1 s7 (seq1 s8 (seq1 (δ1:=[si cell,si least,si n,si kind,some (.ow (T2.map aw)),si t,y6,y7,y8,si most]) ?_ (seq1 s10 ?_)))))))))) rfl
 ·rw [dq];show bN _ _ _ [si cell,si least,si n,si kind,some (.ow (T1.map aw)),si t,a6,a7,a8,si most]=_;unfold bN;rw [hr2];exact i1
 ·simp [bV,bJ,eG,cut14,b2,cK]
theorem scr_0 (K:Frag) (ns:List Int) (r:DSt):gO K 0 (some (.scr K ns)::r)=some ns:=by
 unfold gO;simp
theorem mZ (K:Frag) (ns:List Int) {k:Int} (hk:0<=k):∃ v,bW c K ns k=some v:=by
 unfold bW runS;show ∃ v,(match cj c K [some (.scr K ns),si k] with | some (.rt (.sh (.int j)))=>some j | _=>none)=some v;by_cases h:k<(ns.length:Int)
 ·have hk2:k.toNat<ns.length:=by omega
  refine ⟨ns[k.toNat],?_⟩;have:cj c K [some (.scr K ns),si k]=some (.rt (.sh (.int (ns[k.toNat])))):=by
   simp [cj,dlenS,dixS,scr_0,h,jY hk,List.getElem?_eq_getElem hk2]
  rw [this]
 ·refine ⟨0,?_⟩;have:cj c K [some (.scr K ns),si k]=some (.rt (.sh (.int 0))):=by
   simp [cj,dlenS,scr_0,h]
  rw [this]
theorem m5 {K:Frag} {ns:List Int} {r:DSt} {f:FE} {k v:Int} (h:f (some (.scr K ns)::r)=some (.sh (.int k))) (hv:bW c K ns k=some v):jd K 0 (bW c K) f (some (.scr K ns)::r)=some (.sh (.int v)):=by
 unfold jd;rw [h];simp [scr_0,hv]
theorem m6 (T:List Tie) (ps:List Int) (hT:T.length<=1000):cR c [.lst (T.map aw),ao ps]=some (.int ((T.filter (cM ps)).length:Int)):=by
 have c1:=dG (fi:=aH (aa 0)) (g:=iM 2 (bO (aq 0) (bO (aq 1) i9))) (t:=ai (ad oNe (ad oIn (aa 0) (aa 2)) (ad oIn (aa 1) (aa 2)))) (fe:=ac (.int 1)) (m:=2) (ix:=[1]) (δ:=[some (.sh (.lst (T.map aw))),some (.sh (ao ps))]) (items:=T.map aw) rfl (by simpa using hT) (dr _ _ _ _ aw (cM ps) (fun _=>D.int 1) T (fun t _=>by
  refine ⟨_,rfl,?_,fun _=>⟨.sh (.int 1),rfl,rfl,rfl⟩⟩;simp [dIn,ao,pP,cM]))
 refine be (r:=.sh (.int _)) rfl (gX ?_ rfl) rfl;rw [b7,aE];erw [c1];simp
theorem kX {n:Int} {e0:Option E}:∀ (ps:List Int) (last:Int) (x:Option E),(∀ p∈ps,last<p/\p<n)->ps.Pairwise (·<·)->
  ∃ y z,ba (aq 3) (ar (sif ((bg (ai (ax is_bool (aa 3))) (bg (aP (ai (ax dU (aa 3)))) (aP (ai (cw oLt oLt (aa 2) (aa 3) (aa 1))))))) (aG (ac (.bl false))) az) (sset 2 (aa 3))) (ps.map .int) [e0,si n,si last,x]=some (.nx [e0,si n,y,z])
 | [],last,x,_,_=>⟨_,_,rfl⟩
 | p::ps,last,x,h,hp=>by
  rw [List.pairwise_cons] at hp;obtain ⟨y,z,ih⟩:=kX (n:=n) (e0:=e0) ps p (some (.sh (.int p))) (fun q hq=>⟨hp.1 q hq,(h q (by simp [hq])).2⟩) hp.2;refine ⟨y,z,?_⟩;rw [List.map_cons];unfold ba;have hg:aq 3 (.int p) [e0,si n,si last,x]=some [e0,si n,si last,si p]:=rfl;rw [hg];have h1:=h p (by simp);have hb:(ar (sif ((bg (ai (ax is_bool (aa 3))) (bg (aP (ai (ax dU (aa 3)))) (aP (ai (cw oLt oLt (aa 2) (aa 3) (aa 1))))))) (aG (ac (.bl false))) az) (sset 2 (aa 3))) [e0,si n,si last,si p]=some (.nx [e0,si n,si p,si p]):=by
   simp [ax,is_bool,dU,h1]
  simp only [ud];rw [hb];simp only [ud,cV];exact ih
theorem qQ {n:Int} {ps:List Int} (h:∀ p∈ps,0<=p/\p<n) (hp:ps.Pairwise (·<·)):gE c [ao ps,.int n]=some (.bl true):=by
 obtain ⟨y,z,hl⟩:=kX (n:=n) (e0:=some (.sh (ao ps))) ps (-1) none (fun p hp=>⟨by have:=h p hp;omega,(h p hp).2⟩) hp;refine be (r:=.sh (.bl true)) rfl (seq1 (δ1:=[sI ps,si n,none,none]) (by simp [ax,cF,ao]) (seq1 (δ1:=[sI ps,si n,some (.sh (.int (-1))),none]) (by simp [pM]) (seq1 (δ1:=[sI ps,si n,y,z]) ?_ rfl))) rfl;simp only [bN,cq,dW,uj,ug,ud,gw,bj,ao];simp only [Bool.false_eq_true,if_false,ud];exact hl
theorem ot {e0 e1 e2 e3 e5:Option E}:∀ (ns:List Int) (x:Option E),(∀ p∈ns,0<=p)->
  ∃ y,ba (aq 4) (sif ((bg (ai (ax is_bool (aa 4))) (bg (aP (ai (ax dU (aa 4)))) (ai (ad oLt (aa 4) (ac (.int 0))))))) (aG (ac (.bl false))) az) (ns.map .int) [e0,e1,e2,e3,x,e5]=some (.nx [e0,e1,e2,e3,y,e5])
 | [],x,_=>⟨x,rfl⟩
 | p::ns,x,h=>by
  obtain ⟨y,ih⟩:=ot (e0:=e0) (e1:=e1) (e2:=e2) (e3:=e3) (e5:=e5) ns (some (.sh (.int p))) (fun q hq=>h q (by simp [hq]));refine ⟨y,?_⟩;rw [List.map_cons];unfold ba;have hg:aq 4 (.int p) [e0,e1,e2,e3,x,e5]=some [e0,e1,e2,e3,si p,e5]:=rfl;rw [hg];have h1:¬p<0:=by have:=h p (by simp);omega
  have hb:(sif ((bg (ai (ax is_bool (aa 4))) (bg (aP (ai (ax dU (aa 4)))) (ai (ad oLt (aa 4) (ac (.int 0))))))) (aG (ac (.bl false))) az) [e0,e1,e2,e3,si p,e5]=some (.nx [e0,e1,e2,e3,si p,e5]):=by
   simp [ax,is_bool,dU,h1]
  simp only [ud];rw [hb];simp only [ud,cV];exact ih
theorem best_lt {ns:List Int} {n:Int} (h0:ns≠[]) (h:∀ p∈ns,p<n):∃ m,best (fun x m=>decide (m<x)) ns=some m/\m<n:=by
 cases ns with
 | nil=>exact absurd rfl h0
 | cons a r=>
  have go:∀ (r:List Int) (a:Int),a<n->(∀ x∈r,x<n)->r.foldl (fun m x=>if decide (m<x) then x else m) a<n:=by
   intro r
   induction r with
   | nil=>intro a ha _;exact ha
   | cons x r ih=>
    intro a ha hr;rw [List.foldl_cons];refine ih _ ?_ (fun y hy=>hr y (by simp [hy]));have:=hr x (by simp);split <;> omega
  exact ⟨_,rfl,go r a (h a (by simp)) (fun x hx=>h x (by simp [hx]))⟩
theorem gk {n:Int} {T:List Tie} (W:aN n T) {w:Wlk Int Int} (h:gJ n T w) (nd:w.2.Nodup):eB c [cK n T,eWk w]=some (.bl true):=by
 have hl:=h.len;have hsm:=h.sm;have vj:w.1≠[]:=by intro e;rw [e] at hl;simp at hl
 have hn:∀ pl∈w.2,0<=pl/\pl<(T.length:Int):=by
  intro pl hpl;obtain ⟨k,hk,rfl⟩:=List.mem_iff_getElem.1 hpl;have:=h.tie W hk;exact ⟨this.1,this.2.1⟩
 obtain ⟨mx,hmx,hmn⟩:=best_lt vj (fun p hp=>(h.pt p hp).2);have hdd:(gv w.2).length=w.2.length:=(mW w.2).2 nd;generalize hδ:[some (E.sh (cK n T)),sK w,sI w.1,sI w.2,none,none]=δ;have s1:sif ((bg (aP (ai (ax fq (aa 1)))) (bg (ai (ad oNe (al aV (ab (aa 1) af)) (ac (.int 2)))) (bg (aP (ai (ax cF (ad oIx (aa 1) (ac (.int 0)))))) (aP (ai (ax cF (ad oIx (aa 1) (ac (.int 1)))))))))) (aG (ac (.bl false))) az [sT n T,sK w,none,none,none,none]=some (.nx [sT n T,sK w,none,none,none,none]):=by
  simp [ax,fq,cF,eWk,bc,aV,dz,eH]
 have s2:la (aa 1) (iM 2 (bO (aq 2) (bO (aq 3) i9))) [sT n T,sK w,none,none,none,none]=some (.nx δ):=by rw [<-hδ];rfl
 have s3:sif ((bg (ai (ad oNe (al aV (ab (aa 2) af)) (ad bh (al aV (ab (aa 3) af)) (ac (.int 1))))) (ai (ad oNe (cT (aa 3)) (al aV (ab (aa 3) af)))))) (aG (ac (.bl false))) az δ=some (.nx δ):=by
  rw [<-hδ];have hs:w.2.length<=1000:=by omega
  simp [ao,hl,cT,d0,hdd,hs]
 obtain ⟨y4,s4⟩ : ∃ y4,bN (aH (ad bh (aa 2) (aa 3))) (aq 4) (sif ((bg (ai (ax is_bool (aa 4))) (bg (aP (ai (ax dU (aa 4)))) (ai (ad oLt (aa 4) (ac (.int 0))))))) (aG (ac (.bl false))) az) δ=some (.nx [sT n T,sK w,sI w.1,sI w.2,y4,none]):=by
  obtain ⟨y,hy⟩:=ot (e0:=some (.sh (cK n T))) (e1:=some (.sh (eWk w))) (e2:=some (.sh (ao w.1))) (e3:=some (.sh (ao w.2))) (e5:=none) (w.1++w.2) none (by
   intro p hp;rw [List.mem_append] at hp;rcases hp with hp | hp
   ·exact (h.pt p hp).1
   ·exact (hn p hp).1)
  refine ⟨y,?_⟩;have ha:=jV (w.1.map D.int) (w.2.map D.int) (by simp;omega);have hi:aH (ad bh (aa 2) (aa 3)) δ=some ((w.1++w.2).map .int):=by
   rw [cq,bs (by rw [<-hδ];rfl) (by rw [<-hδ];rfl) ha];simp
  unfold bN;rw [hi,<-hδ];exact hy
 generalize hδ2:[some (E.sh (cK n T)),sK w,sI w.1,sI w.2,y4,none]=δ2 at s4;have c1:=dG (fi:=aH (aa 3)) (g:=aq 0) (t:=dR) (fe:=ad oLt (aa 0) (al aV (ab (ad oIx (aa 1) (ac (.int 1))) af))) (m:=1) (ix:=[0]) (δ:=δ2) (items:=w.2.map .int) (by rw [<-hδ2];rfl) (by simp;omega) (dr _ _ _ _ D.int (fun _=>true) (fun _=>D.bl true) w.2 (fun p hp=>by
  refine ⟨_,rfl,rfl,fun _=>⟨.sh (.bl true),?_,rfl,rfl⟩⟩;have h1:=hn p hp;rw [<-hδ2];simp [dIn,cK,eH,h1]))
 rw [List.filter_eq_self.2 (fun _ _=>rfl)] at c1;have a1:=all_true (f:=ab (bI (aH (aa 3)) (aq 0) dR (ad oLt (aa 0) (al aV (ab (ad oIx (aa 1) (ac (.int 1))) af))) 1 [0]) af) (δ:=δ2) (xs:=w.2) (by rw [aE,c1];rfl);have s5:sif ((bg (ai (ad oGe (al kF (ab (aa 2) af)) (ad oIx (aa 0) (ac (.int 0))))) (aP (ai (al iN (ab (bI (aH (aa 3)) (aq 0) dR (ad oLt (aa 0) (al aV (ab (ad oIx (aa 1) (ac (.int 1))) af))) 1 [0]) af)))))) (aG (ac (.bl false))) az δ2=some (.nx δ2):=by
  have t1:(ai (ad oGe (al kF (ab (aa 2) af)) (ad oIx (aa 0) (ac (.int 0))))) δ2=some false:=by
   rw [<-hδ2];have:¬n<=mx:=by omega
   simp [ao,kF,d0,hmx,cK,dz,this]
  rw [cp,mi,t1];simp only [ud,eT,cb];rw [a1];rfl
 have loop:∀ (ks:List Nat) (x:Option E),(∀ k∈ks,k<w.2.length)->∃ y,ba (aq 5) (sif (ai (ad oNe (ad oIx (ad oIx (aa 0) (ac (.int 1))) (ad oIx (aa 3) (aa 5))) (b9 (ab (aZ dJ (ab (ad oIx (aa 2) (aa 5)) (ab (ad oIx (aa 2) (ad bh (aa 5) (ac (.int 1)))) af))) (ab (aZ fg (ab (ad oIx (aa 2) (aa 5)) (ab (ad oIx (aa 2) (ad bh (aa 5) (ac (.int 1)))) af))) af))))) (aG (ac (.bl false))) az)
   (ks.map fun k=>D.int (0+((k:Nat):Int))) [sT n T,sK w,sI w.1,sI w.2,y4,x]=some (.nx [sT n T,sK w,sI w.1,sI w.2,y4,y]):=by
  intro ks
  induction ks with
  | nil=>intro x _;exact ⟨x,rfl⟩
  | cons k ks ih=>
   intro x hks;obtain ⟨y,hy⟩:=ih (some (.sh (.int (0+(k:Int))))) (fun j hj=>hks j (by simp [hj]));refine ⟨y,?_⟩;rw [List.map_cons];unfold ba;have hg:aq 5 (.int (0+(k:Int))) [sT n T,sK w,sI w.1,sI w.2,y4,x]=some [sT n T,sK w,sI w.1,sI w.2,y4,some (.sh (.int (0+(k:Int))))]:=rfl;rw [hg];have hk:=hks k (by simp);have ht:=h.tie W hk;have g1:atI (T.map aw) w.2[k]=some (aw (fT (w.1[k]'(by omega)) (w.1[k+1]'(by omega)))):=by
    rw [jY ht.1,List.getElem?_map,ht.2.2];rfl
   have g0:atI (w.2.map D.int) (k:Int)=some (.int w.2[k]):=by rw [jh,List.getElem?_map,List.getElem?_eq_getElem (by omega)];rfl
   have g2:atI (w.1.map D.int) (k:Int)=some (.int (w.1[k]'(by omega))):=by rw [jh,List.getElem?_map,List.getElem?_eq_getElem (by omega)];rfl
   have g3:atI (w.1.map D.int) ((k:Int)+1)=some (.int (w.1[k+1]'(by omega))):=by
    rw [show (k:Int)+1=((k+1:Nat):Int) by omega,jh,List.getElem?_map,List.getElem?_eq_getElem (by omega)];rfl
   have b2:(2:Nat)<=big:=by decide
   have vj:=oNe_tie (fT (w.1[k]'(by omega)) (w.1[k+1]'(by omega))) (fT (w.1[k]'(by omega)) (w.1[k+1]'(by omega)));have hb:(sif (ai (ad oNe (ad oIx (ad oIx (aa 0) (ac (.int 1))) (ad oIx (aa 3) (aa 5))) (b9 (ab (aZ dJ (ab (ad oIx (aa 2) (aa 5)) (ab (ad oIx (aa 2) (ad bh (aa 5) (ac (.int 1)))) af))) (ab (aZ fg (ab (ad oIx (aa 2) (aa 5)) (ab (ad oIx (aa 2) (ad bh (aa 5) (ac (.int 1)))) af))) af))))) (aG (ac (.bl false))) az) [sT n T,sK w,sI w.1,sI w.2,y4,some (.sh (.int (0+(k:Int))))] =
     some (.nx [sT n T,sK w,sI w.1,sI w.2,y4,some (.sh (.int (0+(k:Int))))]):=by
    have e0:(0:Int)+(k:Int)=(k:Int):=by omega
    rw [e0];have hA:ad oIx (ad oIx (aa 0) (ac (.int 1))) (ad oIx (aa 3) (aa 5)) [sT n T,sK w,sI w.1,sI w.2,y4,some (.sh (.int (k:Int)))]=some (.sh (aw (fT (w.1[k]'(by omega)) (w.1[k+1]'(by omega))))):=by
     simp only [ki,dW,jb,uj,ug,ud,bj,cK,oIx_t,kI,eH,Option.map_some,ao,g0,g1]
    have hP:ad oIx (aa 2) (aa 5) [sT n T,sK w,sI w.1,sI w.2,y4,some (.sh (.int (k:Int)))]=some (.sh (.int (w.1[k]'(by omega)))):=by
     simp only [ki,dW,uj,ug,ud,bj,kI,Option.map_some,ao,g2]
    have hQ:ad oIx (aa 2) (ad bh (aa 5) (ac (.int 1))) [sT n T,sK w,sI w.1,sI w.2,y4,some (.sh (.int (k:Int)))]=some (.sh (.int (w.1[k+1]'(by omega)))):=by
     simp only [ki,dW,jb,uj,ug,ud,bj,oAdd_ii,kI,Option.map_some,ao,g3]
    have hB:b9 (ab (aZ dJ (ab (ad oIx (aa 2) (aa 5)) (ab (ad oIx (aa 2) (ad bh (aa 5) (ac (.int 1)))) af))) (ab (aZ fg (ab (ad oIx (aa 2) (aa 5)) (ab (ad oIx (aa 2) (ad bh (aa 5) (ac (.int 1)))) af))) af)) [sT n T,sK w,sI w.1,sI w.2,y4,some (.sh (.int (k:Int)))]=some (.sh (aw (fT (w.1[k]'(by omega)) (w.1[k+1]'(by omega))))):=by
     rw [dtup_e,aE,aE,mj,mj,aE,aE,hP,hQ];simp [b2,fT,<-jW,<-lL]
    rw [cp,cb,bA hA hB vj];simp
   simp only [ud];rw [hb];simp only [ud,cV];exact hy
 obtain ⟨y5,s6⟩:=loop (List.range w.2.length) none (fun k hk=>by simpa using hk);refine be (r:=.sh (.bl true)) rfl (seq1 s1 (seq1 s2 (seq1 s3 (seq1 s4 (seq1 s5 (seq1 (δ1:=[sT n T,sK w,sI w.1,sI w.2,y4,y5]) ?_ rfl)))))) rfl;have hr:=rngE (f:=al aV (ab (aa 3) af)) (δ:=δ2) (j:=w.2.length) (by rw [<-hδ2];simp [ao]) (by omega) (by omega);unfold bN;rw [hr,<-hδ2];simpa using s6
theorem gl (ns:List Int):(srt ns).Perm ns:=List.mergeSort_perm _ _
theorem srt_le (ns:List Int):(srt ns).Pairwise (·<=·):=by
 have:=List.pairwise_mergeSort (le:=fun (a b:Int)=>decide (a<=b)) (fun a b c h1 h2=>by simp at *;omega) (fun a b=>by simp;omega) ns;exact this.imp (fun h=>by simpa using h)
theorem srt_lt {ns:List Int} (nd:ns.Nodup):(srt ns).Pairwise (·<·):=by
 have h1:=srt_le ns;have h2:(srt ns).Nodup:=(List.Perm.nodup_iff (gl ns)).2 nd;exact (List.Pairwise.and h1 h2).imp (fun ⟨a,b⟩=>by omega)
theorem pts_lt (n:Int):(pts n).Pairwise (·<·):=by
 unfold pts;rw [List.pairwise_map];exact (List.pairwise_lt_range).imp (fun h=>by omega)
theorem isSet_srt {n:Int} {ns:List Int} (nd:ns.Nodup) (h:∀ p∈ns,0<=p/\p<n):isSet n (srt ns)=true:=by
 unfold isSet;rw [decide_eq_true_eq];have hp:((pts n).filter (srt ns).contains).Perm ns:=by
  rw [List.perm_ext_iff_of_nodup (pz (iK n)) nd];intro a;rw [List.mem_filter,eE];simp only [List.contains_iff_mem,(gl ns).mem_iff];constructor
  ·exact fun h=>h.2
  ·exact fun ha=>⟨h a ha,ha⟩
 exact (srt_eq hp ((pts_lt n).filter _ |>.imp (fun h=>by omega))).symm
theorem setN1 {i:Nat} {g:FN} {δ δ':DSt} {d:D} (h:g δ=some d) (hd:δ.set i (some (.nw d))=δ'):jE i g δ=some (.nx δ'):=by rw [ssetN_e,h,ud,hd]
theorem m7 {i:Nat} {t:DSt->Option Bool} {F G:FS} {δ:DSt} {x:Option Res} (h:t (frz i δ)=some false) (h2:G δ=x):jF i t F G δ=x:=by rw [sifB_e,h];simpa using h2
theorem ifB_t {i:Nat} {t:DSt->Option Bool} {F G:FS} {δ:DSt} {x:Option Res} (h:t (frz i δ)=some true) (h2:F δ=x):jF i t F G δ=x:=by rw [sifB_e,h];simpa using h2
theorem dH {t u:DSt->Option Bool} {δ:DSt} {x:Option Bool} (h:t δ=some false) (h2:u δ=x):bg t u δ=x:=by rw [mi,h];simpa using h2
theorem dO {t:DSt->Option Bool} {δ:DSt} {b:Bool} (h:t δ=some b):aP t δ=some (!b):=by rw [eT,h];rfl
theorem aI {f:FE} {δ:DSt} {b:Bool} (h:f δ=some (.sh (.bl b))):ai f δ=some b:=by rw [cb,h];rfl
theorem dP {ans:D->Option Bool} {f:FE} {δ:DSt} {d:D} {b:Bool} (h:f δ=some (.sh d)) (ha:ans d=some b):ax ans f δ=some (.sh (.bl b)):=by
 unfold ax;rw [h];simp [ha]
theorem pS {f:FE} {δ:DSt} {a b:Bool} (h:f δ=some (.sh (.bl a))):ai (ad kj f (ac (.bl b))) δ=some (!decide (a=b)):=by
 rw [cb,bs h rfl rfl];cases a <;> cases b <;> rfl
theorem jl {f:FE} {δ:DSt} {n:Int} {T:List Tie} (h:f δ=some (.sh (cK n T))):ad oIx f (ac (.int 0)) δ=some (.sh (.int n)):=bA h rfl (by simp [cK,dz])
theorem gK {f:FE} {δ:DSt} {n:Int} {T:List Tie} (h:f δ=some (.sh (cK n T))):ad oIx f (ac (.int 1)) δ=some (.sh (.lst (T.map aw))):=bA h rfl (by simp [cK,eH])
theorem told_1s {f:FE} {δ:DSt} {n:Int} {T:List Tie} (h:f δ=some (.sh (cK n T))):bV (ad oIx f (ac (.int 1))) (bJ (ac (.int 1))) eG δ=some (.fr (T.tail.map aw)):=by
 unfold bV;rw [gK h];simp [bJ,eG,cut1,List.map_tail]
theorem tail_ok {n:Int} {T:List Tie} (W:aN n T):aN n T.tail:=⟨W.1,W.2.1,by have:=W.2.2.1;simp;omega,fun t ht=>W.2.2.2 t (List.mem_of_mem_tail ht)⟩
theorem lkp {A:Type} {a:A}:List.lookup ("points" : Str) [("points",a)]=some a:=rfl
theorem lkp2 {A:Type} {a:A}:List.lookup ("shows" : Str) [(("points" : Str),a)]=none:=rfl
theorem ou (s:Int×Int×Int):eSt s=.tup [.int s.1,.int s.2.1,.int s.2.2]:=rfl
theorem oNotIn_t2 (p a b:Int):oNotIn (.int p) (.tup [.int a,.int b])=some (.sh (.bl (decide (p∉[a,b])))):=by
 have h:Ew.okD (.tup [.int a,.int b])=true:=ET.okD (show max 1 1+1<=16 by decide) (a,b);show (if okD (.int p)=true/\okD (.tup [.int a,.int b])=true then some (R.sh (.bl (!([D.int a,D.int b]).any fun y=>eqP y (.int p)))) else none)=_;rw [if_pos ⟨eU p,h⟩];have:=Enc.any Enc.int p [a,b];simp only [Enc.int,List.map_cons,List.map_nil] at this;rw [this];by_cases h:p∈[a,b] <;> simp [h]
theorem ox (L:bn Int Int) (p:Int) (hL:L.length<=1000):dC c [.lst (L.map eSt),.int p]=some (.lst ((bK L p).map eSt)):=by
 refine be (r:=.fr _) rfl ?_ rfl;have:=dG (fi:=aH (aa 0)) (g:=aq 0) (t:=ai (ad oNotIn (aa 1) (dslT (aa 0) eG (bJ (ac (.int 2)))))) (fe:=aa 0) (m:=1) (ix:=[1]) (δ:=[some (.sh (.lst (L.map eSt))),si p]) rfl (by simpa using hL) (dr _ _ _ _ eSt (fun s=>decide (p∉[s.1,s.2.1])) eSt L (fun s _=>by
  refine ⟨_,rfl,?_,fun _=>⟨.sh (eSt s),rfl,rfl,rfl⟩⟩;have e1:dslT (aa 0) eG (bJ (ac (.int 2))) [some (E.sh (eSt s)),si p]=some (.sh (.tup [.int s.1,.int s.2.1])):=rfl;have e2:ai (ad oNotIn (aa 1) (dslT (aa 0) eG (bJ (ac (.int 2))))) [some (E.sh (eSt s)),si p]=some (decide (p∉[s.1,s.2.1])):=by
   rw [cb,bs rfl e1 (oNotIn_t2 p s.1 s.2.1)];rfl
  exact e2))
 exact gX this rfl
theorem saw_eq (s:Int×Int×Int) (w:Wlk Int Int) (h1:w.1.length<=500) (h2:w.2.length<=500):cf c [eSt s,eWk w]=some (eWk (s.1::w.1,s.2.2::w.2)):=by
 have f1:=ff w.1;have f2:=ff w.2;have b2:(2:Nat)<=big:=by decide
 have b1:(1:Nat)<=big:=by decide
 have b3:1+w.1.length<=big:=by rw [bo];omega
 have b4:1+w.2.length<=big:=by rw [bo];omega
 have b5:w.1.length+1<=big:=by rw [bo];omega
 have b6:w.2.length+1<=big:=by rw [bo];omega
 simp only [List.all_map] at f1 f2;simp [cf,gS,ou,eWk,bc,dz,eH,atI_2,Enc.int,b1,b2,b3,b4,b5,b6,bh] at f1 f2 ⊢
noncomputable def outI:Option (Wlk Int Int)->D:=outW Enc.int Enc.int
theorem gL {L:bn Int Int} {a:Int} {ends:List Int} {w:Wlk Int Int} (hU:jN L) (hL:L.length<=90) (h:cY 100 L a ends=some w):w.1.length=w.2.length+1/\w.2.length<=L.length:=by
 have B:=kq (L:=L) (a:=a) (ends:=ends) (n:=100) (by omega);rw [h] at B;obtain ⟨b,_,sw⟩:=B;have h1:=List.Nodup.length_le_of_subset sw.stepsNodup (l₂:=L) (fun s hs=>(sw.step s hs).1);have h2:=congrArg List.length sw.names;simp at h2;exact ⟨sw.len,by omega⟩
theorem ncall1 {m:List D->Option D} {f1:FE} {δ:DSt} {r1:R} {d:D} (h1:f1 δ=some r1) (hm:m [r1.view]=some d) (hb:r1.isBw=false):cP 1 m (ab f1 af) δ=some d:=by
 simp [o9,h1,hm,hb]
theorem pT {m:List D->Option D} {f1 f2:FE} {δ:DSt} {r1 r2:R} {d:D} (h1:f1 δ=some r1) (h2:f2 δ=some r2) (hm:m [r1.view,r2.view]=some d) (hb:r1.isBw=false/\r2.isBw=false):cP 2 m (ab f1 (ab f2 af)) δ=some d:=by
 simp [o9,h1,h2,hm,hb]
theorem ncall3 {m:List D->Option D} {f1 f2 f3:FE} {δ:DSt} {r1 r2 r3:R} {d:D} (h1:f1 δ=some r1) (h2:f2 δ=some r2) (h3:f3 δ=some r3) (hm:m [r1.view,r2.view,r3.view]=some d) (hb:r1.isBw=false/\r2.isBw=false/\r3.isBw=false):cP 3 m (ab f1 (ab f2 (ab f3 af))) δ=some d:=by
 simp [o9,h1,h2,h3,hm,hb]
theorem jm {k:Nat} {F:FS} {ds:List D} {δ:DSt} {d:D} (h0:ds.map (fun d=>some (E.sh d))++List.replicate (k-ds.length) none=δ) (h:F δ=some (.rn d)):Ew.runN k F ds=some d:=by
 unfold Ew.runN;rw [h0,h]
theorem st_0 {f:FE} {δ:DSt} {s:Int×Int×Int} (h:f δ=some (.sh (eSt s))):ad oIx f (ac (.int 0)) δ=some (.sh (.int s.1)):=bA h rfl (by simp [ou,dz])
theorem st_1 {f:FE} {δ:DSt} {s:Int×Int×Int} (h:f δ=some (.sh (eSt s))):ad oIx f (ac (.int 1)) δ=some (.sh (.int s.2.1)):=bA h rfl (by simp [ou,eH])
theorem st_2 {f:FE} {δ:DSt} {s:Int×Int×Int} (h:f δ=some (.sh (eSt s))):ad oIx f (ac (.int 2)) δ=some (.sh (.int s.2.2)):=bA h rfl (by simp [ou,atI_2])
theorem iw {L M:bn Int Int} (h:∀ s∈M,s∈L) (U:jN L):jN M:=fun s hs t ht e=>U s (h s hs) t (h t ht) e
theorem jn {L:bn Int Int} {p:Int}:∀ s∈bK L p,s∈L:=fun s hs=>(cz.1 hs).1
theorem lM {L:bn Int Int} {ns:List Int}:∀ s∈am L ns,s∈L:=fun s hs=>(List.mem_filter.1 hs).1
theorem oy {g:FN} {δ:DSt} {d:D} (h:g δ=some d):gN g δ=some (.rn d):=by rw [sretN_e,h];rfl
theorem qR {L:bn Int Int} (hU:jN L) (hL:L.length<=90) (met:List Int) (s:Int×Int×Int) :
  ji c [.lst (L.map eSt),ao met,eSt s]=some (outI (ey 100 L met s)):=by
 have hb:=ox c L s.1 (by omega);have hl:(bK L s.1).length<=90:=Nat.le_trans fw hL;have hw:bQ c [.lst ((bK L s.1).map eSt),.int s.2.1,ao met]=some (outI (cY 100 (bK L s.1) s.2.1 met)):=gj c Enc.int Enc.int (by decide) (by decide) _ _ _ hl;refine jm rfl (seq1 (δ1:=[some (.sh (.lst (L.map eSt))),sI met,some (.sh (eSt s)),some (.sh (outI (cY 100 (bK L s.1) s.2.1 met)))]) ?_ ?_)
 ·exact dh (cs3 (cs2 rfl (st_0 (f:=aa 2) rfl) hb) (st_1 (f:=aa 2) rfl) rfl hw) rfl rfl
 ·refine oy ?_;unfold ey;cases e:cY 100 (bK L s.1) s.2.1 met with
  | none=>rfl
  | some w=>
   obtain ⟨l1,l2⟩:=gL (iw jn hU) hl e;have h3:=saw_eq c s w (by omega) (by omega);have t1:ai (ad oIs (aa 3) (ac .non)) [some (.sh (.lst (L.map eSt))),sI met,some (.sh (eSt s)),some (.sh (outI (some w)))]=some false:=rfl;rw [nif_e,t1,ud,if_neg Bool.false_ne_true];exact pT (r1:=.sh (eSt s)) (r2:=.sh (eWk w)) rfl rfl h3 ⟨rfl,rfl⟩
theorem pU {L:bn Int Int} (hU:jN L) (hL:L.length<=90) (s:Int×Int×Int) {w:Wlk Int Int} (h:gb 100 L s=some w) :
  ik c [.lst (L.map eSt),eSt s]=some (eWk w):=by
 have b1:(1:Nat)<=big:=by decide
 have hb:bF c [.lst (L.map eSt),ao [s.2.2]]=some (.lst ((am L [s.2.2]).map eSt)):=gG c Enc.int Enc.int (by decide) L [s.2.2] (by omega);have hl:(am L [s.2.2]).length<=90:=Nat.le_trans ez hL;have hw:bQ c [.lst ((am L [s.2.2]).map eSt),.int s.2.1,ao [s.1]]=some (outI (cY 100 (am L [s.2.2]) s.2.1 [s.1])):=gj c Enc.int Enc.int (by decide) (by decide) _ _ _ hl;unfold gb at h;cases e:cY 100 (am L [s.2.2]) s.2.1 [s.1] with
 | none=>rw [e] at h;cases h
 | some v=>
  rw [e] at h hw;cases h;obtain ⟨l1,l2⟩:=gL (iw lM hU) hl e;have h3:=saw_eq c s v (by omega) (by omega);refine jm rfl (oy (pT (r1:=.sh (eSt s)) (r2:=.sh (eWk v)) rfl (call3 (r1:=.sh _) (r2:=.sh _) (r3:=.fr _) (call2 (r1:=.sh _) (r2:=.fr _) rfl ?_ hb (.inl ⟨rfl,rfl⟩)) (st_1 (f:=aa 1) rfl) ?_ hw (.inl ⟨rfl,rfl,rfl⟩)) h3 ⟨rfl,rfl⟩))
  ·rw [dlst_e,aE,st_2 (f:=aa 1) rfl];simp [b1]
  ·rw [dlst_e,aE,st_0 (f:=aa 1) rfl];simp [b1]
theorem qS {L:bn Int Int} (hU:jN L) (hL:L.length<=90) (met:List Int) {w:Wlk Int Int} (h:eV 100 L met=some w) :
  gC c [.lst (L.map eSt),ao met]=some (eWk w):=by
 have c1:=dG (fi:=aH (aa 0)) (g:=aq 0) (t:=ai (ad oIn (ad oIx (aa 0) (ac (.int 0))) (aa 1))) (fe:=aa 0) (m:=1) (ix:=[1]) (δ:=[some (.sh (.lst (L.map eSt))),sI met,none,none]) rfl (by simp;omega) (dr _ _ _ _ eSt (fun s=>decide (s.1∈met)) eSt L (fun s _=>by
  refine ⟨_,rfl,?_,fun _=>⟨.sh (eSt s),rfl,rfl,rfl⟩⟩;simp [dIn,ou,dz,ao]))
 unfold eV at h;cases ef:L.filter fun s=>decide (s.1∈met) with
 | nil=>rw [ef] at h;cases h
 | cons s rest=>
  rw [ef] at h c1;simp only at h;have hw:=qR c hU hL met s;refine jm rfl (seq1 (δ1:=[some (.sh (.lst (L.map eSt))),sI met,some (.sh (eSt s)),none]) ?_ (seq1 (δ1:=[some (.sh (.lst (L.map eSt))),sI met,some (.sh (eSt s)),some (.nw (outI (ey 100 L met s)))]) ?_ ?_))
  ·exact dh (bA (b:=.sh (.int 0)) c1 rfl (by simp [dz];rfl)) rfl rfl
  ·rw [dq];exact setN1 (ncall3 (r1:=.sh _) (r2:=.sh _) (r3:=.sh _) rfl rfl rfl hw ⟨rfl,rfl,rfl⟩) rfl
  ·rw [dq];cases e:ey 100 L met s with
   | none=>
    rw [e] at h;have hr:=pU c hU hL s h;have t1:ai (ad oIs (aa 3) (ac .non)) (frz 3 [some (.sh (.lst (L.map eSt))),sI met,some (.sh (eSt s)),some (.nw (outI none))])=some true:=rfl;show jI 3 _ _ [some (.sh (.lst (L.map eSt))),sI met,some (.sh (eSt s)),some (.nw (outI none))]=_;unfold jI;rw [t1];show (cP 2 _ _ (frz 3 _)).bind _=_;rw [pT (r1:=.sh (.lst (L.map eSt))) (r2:=.sh (eSt s)) rfl rfl hr ⟨rfl,rfl⟩];rfl
   | some v=>
    rw [e] at h;cases h;rfl
theorem m8 {L:bn Int Int} (hU:jN L) (hL:L.length<=90) {met:List Int} {e:Wlk Int Int} (h:eV 100 L met=some e):e.1.length=e.2.length+1/\e.2.length<=91:=by
 unfold eV at h;cases ef:L.filter fun s=>decide (s.1∈met) with
 | nil=>rw [ef] at h;cases h
 | cons s rest=>
  rw [ef] at h;simp only at h;cases ew:ey 100 L met s with
  | none=>
   rw [ew] at h;unfold gb at h;cases q:cY 100 (am L [s.2.2]) s.2.1 [s.1] with
   | none=>rw [q] at h;cases h
   | some v=>
    rw [q] at h;cases h;have hl:(am L [s.2.2]).length<=90:=Nat.le_trans ez hL;obtain ⟨l1,l2⟩:=gL (iw lM hU) hl q;simp;omega
  | some v=>
   rw [ew] at h;cases h;unfold ey at ew;cases q:cY 100 (bK L s.1) s.2.1 met with
   | none=>rw [q] at ew;cases ew
   | some v=>
    rw [q] at ew;cases ew;have hl:(bK L s.1).length<=90:=Nat.le_trans fw hL;obtain ⟨l1,l2⟩:=gL (iw jn hU) hl q;simp;omega
noncomputable def bodyE:FS:=(ar (km 2 4 (cP 2 (gC c) (ab (aa 3) (ab (aa 2) af)))) (ar (i8 4 (de 1 (aa 4))) (ar (k8 2 (ad oIx (aa 4) (ac (.int 0)))) (sset 3 (av 2 (bF c) (ab (aa 3) (ab (ad oIx (aa 4) (ac (.int 1))) af)))))))
theorem ears_body {e0 x4:Option E} {L:bn Int Int} (hU:jN L) (hL:L.length<=90) {met:List Int} {acc:List (Wlk Int Int)} {e:Wlk Int Int} (h:eV 100 L met=some e) (ha:acc.length<=1000) (hm:met.length<=50000) :
  bodyE c [e0,some (.ow (acc.map eWk)),some (.ow (met.map .int)),some (.sh (.lst (L.map eSt))),x4] =
   some (.nx [e0,some (.ow ((acc++[e]).map eWk)),some (.ow ((met++e.1).map .int)),some (.sh (.lst ((am L e.2).map eSt))),some (.sh (eWk e))]):=by
 have hn:=qS c hU hL met h;obtain ⟨l1,l2⟩:=m8 hU hL h;have hb:bF c [.lst (L.map eSt),ao e.2]=some (.lst ((am L e.2).map eSt)):=gG c Enc.int Enc.int (by decide) L e.2 (by omega);refine seq1 (δ1:=[e0,some (.ow (acc.map eWk)),some (.ow (met.map .int)),some (.sh (.lst (L.map eSt))),some (.nw (eWk e))]) ?_ (seq1 (δ1:=[e0,some (.ow ((acc++[e]).map eWk)),some (.ow (met.map .int)),some (.sh (.lst (L.map eSt))),some (.sh (eWk e))]) ?_ (seq1 (δ1:=[e0,some (.ow ((acc++[e]).map eWk)),some (.ow ((met++e.1).map .int)),some (.sh (.lst (L.map eSt))),some (.sh (eWk e))]) ?_ ?_))
 ·unfold km;rw [pT (r1:=.sh (.lst (L.map eSt))) (r2:=.sh (ao met)) rfl rfl hn ⟨rfl,rfl⟩];rfl
 ·rw [dq];show de 1 (aa 4) [e0,some (.ow (acc.map eWk)),some (.ow (met.map .int)),some (.sh (.lst (L.map eSt))),some (.sh (eWk e))]=_;have b1:acc.length<=big:=by rw [bo];omega
  simp [de,b1]
 ·unfold k8;show (ad oIx (aa 4) (ac (.int 0)) _).bind _=_;rw [dN (w:=e) rfl];show (if (met.map D.int).length+(e.1.map D.int).length<=big then _ else _)=_;rw [if_pos (by rw [bo];simp only [uk];omega)];simp
 ·exact dh (cs2 rfl (iW (w:=e) rfl) hb) rfl rfl
theorem oz {e0:Option E}:∀ (f:Nat) (L:bn Int Int) (met:List Int) (acc out:List (Wlk Int Int)) (x4:Option E),cQ 100 f L met acc=some out->jN L->L.length<=90->acc.length+f<=1000->met.length+100*f<=50000->
  ∃ y2 y3 y4,cZ (ai (ad oGt (al aV (ab (aa 3) af)) (ac (.int 0)))) (bodyE c) f [e0,some (.ow (acc.map eWk)),some (.ow (met.map .int)),some (.sh (.lst (L.map eSt))),x4]=some (.nx [e0,some (.ow (out.map eWk)),y2,y3,y4])
 | 0,L,met,acc,out,x4,h,_,_,_,_=>by cases h
 | f+1,L,met,acc,out,x4,h,hU,hL,ha,hm=>by
  unfold cQ at h;unfold cZ;have ht:(ai (ad oGt (al aV (ab (aa 3) af)) (ac (.int 0)))) [e0,some (.ow (acc.map eWk)),some (.ow (met.map .int)),some (.sh (.lst (L.map eSt))),x4]=some (decide (0<L.length)):=by
   simp
  rw [ht,ud];by_cases he:L=[]
  ·rw [if_pos he] at h;cases h;subst he;exact ⟨_,_,_,rfl⟩
  ·rw [if_neg he] at h;have hp:0<L.length:=List.length_pos_iff.mpr he;rw [if_pos (by simpa using hp)];cases en:eV 100 L met with
   | none=>rw [en] at h;cases h
   | some e=>
    rw [en] at h;simp only at h;obtain ⟨l1,l2⟩:=m8 hU hL en;rw [ears_body c hU hL en (by omega) (by omega)];simp only [ud,cV];exact oz f (am L e.2) (met++e.1) (acc++[e]) out (some (.sh (eWk e))) h (iw lM hU) (Nat.le_trans ez hL) (by simp;omega) (by simp;omega)
theorem kY {n:Int} {T:List Tie} (W:aN n T) {out:List (Wlk Int Int)} (h:cQ 100 100 (ap T) [0] []=some out):gD c [aX c n T]=some (.lst (out.map eWk)):=by
 have hT:=W.2.2.1;have hl:=br T;have hs:=iq c n T (by omega);obtain ⟨y2,y3,y4,hw⟩:=oz c (e0:=some (.sh (aX c n T))) 100 (ap T) [0] [] out none h (eY T) (by omega) (by simp) (by simp);have b1:(1:Nat)<=big:=by decide
 have hF:mO c=(ar (sset 1 (bX af)) (ar (sset 2 (bX (ab (ac (.int 0)) af))) (ar (sset 3 (av 1 (cB c) (ab (aa 0) af))) (ar (cZ (ai (ad oGt (al aV (ab (aa 3) af)) (ac (.int 0)))) (bodyE c) 100) (jy 1))))):=rfl;refine be (r:=.fr _) rfl ?_ rfl;rw [hF];refine seq1 (δ1:=[sW c n T,some (.ow []),none,none,none]) (by simp) (seq1 (δ1:=[sW c n T,some (.ow []),some (.ow [.int 0]),none,none]) (by simp [b1]) (seq1 (δ1:=[sW c n T,some (.ow []),some (.ow [.int 0]),some (.sh (.lst ((ap T).map eSt))),none]) ?_ (seq1 (δ1:=[sW c n T,some (.ow (out.map eWk)),y2,y3,y4]) ?_ rfl)))
 ·exact dh (cs1 rfl hs) rfl rfl
 ·exact hw
noncomputable def bB (T:List Tie) (k:Nat):List Int:=reach 100 ((am (ap T) [(k:Int)]).map fun s=>(s.1,s.2.1)) 0
noncomputable def ci (n:Int) (T:List Tie):List Int:=match (List.range (T.length+1)).find? (fun k=>decide (((bB T k).length:Int)<n)) with
 | none=>[]
 | some k=>srt (bB T k)
theorem m9 {n:Int} {T:List Tie} (W:aN n T) (k:Nat):∀ p∈bB T k,0<=p/\p<n:=by
 have R:=jO (L:=(am (ap T) [(k:Int)]).map fun s=>(s.1,s.2.1)) (a:=(0:Int)) (n:=100) (by
  have:=ez (L:=ap T) (ns:=[(k:Int)]);have:=br T;have:=W.2.2.1;simp only [uk];omega)
 intro p hp;refine R.min (fun p=>0<=p/\p<n) ⟨by omega,by have:=W.1;omega⟩ ?_ p hp;intro s hs _;obtain ⟨t,ht,rfl⟩:=List.mem_map.1 hs;have:=bz W t (lM t ht);exact ⟨this.2.2.1,this.2.2.2⟩
theorem ng {n:Int} {T:List Tie} (W:aN n T) (k:Nat):lK ((am (ap T) [(k:Int)]).map fun s=>(s.1,s.2.1)) 0 (bB T k):=jO (by
 have:=ez (L:=ap T) (ns:=[(k:Int)]);have:=br T;have:=W.2.2.1;simp only [uk];omega)
theorem barAt_len {n:Int} {T:List Tie} (W:aN n T) (k:Nat):(bB T k).length<=8:=by
 have:=List.Nodup.length_le_of_subset (ng W k).nd (l₂:=pts n) (fun p hp=>eE.2 (m9 W k p hp));rw [eD] at this;have:=W.2.1;omega
noncomputable def nh:FS:=(ar (sset 3 (av 2 (da c) (ab (ac (.int 0)) (ab (av 2 (bF c) (ab (aa 1) (ab (bX (ab (aa 2) af)) af))) af)))) (sif (ai (ad oLt (al aV (ab (aa 3) af)) (bZ (isC c.Web) "points" (aa 0)))) (aG (al eu (ab (aa 3) af))) az))
theorem ni {f:FE} {δ:DSt} {n:Int} {T:List Tie} (h:f δ=some (.sh (aX c n T))):bZ (isC c.Web) "points" f δ=some (.sh (.int n)):=by
 rw [o6,h];simp [aX,ky]
theorem bar_body {n:Int} {T:List Tie} (W:aN n T) (k:Nat) (x3:Option E) :
  nh c [sW c n T,some (.sh (.lst ((ap T).map eSt))),si k,x3] =
   if ((bB T k).length:Int)<n then some (.rt (.fr ((srt (bB T k)).map .int))) else some (.nx [sW c n T,some (.sh (.lst ((ap T).map eSt))),si k,some (.sh (ao (bB T k)))]):=by
 have hT:=W.2.2.1;have hl:=br T;have b1:(1:Nat)<=big:=by decide
 have hb:bF c [.lst ((ap T).map eSt),ao [(k:Int)]]=some (.lst ((am (ap T) [(k:Int)]).map eSt)):=gG c Enc.int Enc.int (by decide) _ _ (by omega);have hbl:(am (ap T) [(k:Int)]).length<=28:=by have:=ez (L:=ap T) (ns:=[(k:Int)]);omega
 have hr:da c [.int 0,.lst ((am (ap T) [(k:Int)]).map eSt)]=some (ao (bB T k)):=mQ c Enc.int (by decide) eSt (fun s=>(s.1,s.2.1)) (fun s=>⟨_,ou s⟩) _ 0 (by omega);refine seq1 (δ1:=[sW c n T,some (.sh (.lst ((ap T).map eSt))),si k,some (.sh (ao (bB T k)))]) ?_ ?_
 ·refine dh (cs2 rfl (call2 (r1:=.sh _) (r2:=.fr _) rfl ?_ hb (.inl ⟨rfl,rfl⟩)) hr) rfl rfl;simp [b1]
 ·have hlen:=barAt_len W k;have t1:ai (ad oLt (al aV (ab (aa 3) af)) (bZ (isC c.Web) "points" (aa 0))) [sW c n T,some (.sh (.lst ((ap T).map eSt))),si k,some (.sh (ao (bB T k)))]=some (decide (((bB T k).length:Int)<n)):=by
   rw [cb,bA (a:=.sh (.int (bB T k).length)) (b:=.sh (.int n)) (x:=some (.sh (.bl (decide (((bB T k).length:Int)<n))))) (by simp [ao]) (ni c rfl) rfl];rfl
  rw [cp,t1,ud];by_cases h:((bB T k).length:Int)<n
  ·rw [if_pos (by simpa using h),if_pos h];refine gX (r:=.fr _) ?_ rfl;rw [b7];simp [ao,jZ _ (show (bB T k).length<64 by omega)]
  ·rw [if_neg (by simpa using h),if_neg h];rfl
theorem qT {n:Int} {T:List Tie} (W:aN n T):∀ (ks:List Nat) (x2 x3:Option E),
  match ks.find? (fun k=>decide (((bB T k).length:Int)<n)) with
  | none=>∃ y2 y3,ba (aq 2) (nh c) (ks.map fun k=>D.int (0+((k:Nat):Int))) [sW c n T,some (.sh (.lst ((ap T).map eSt))),x2,x3]=some (.nx [sW c n T,some (.sh (.lst ((ap T).map eSt))),y2,y3])
  | some k=>ba (aq 2) (nh c) (ks.map fun k=>D.int (0+((k:Nat):Int))) [sW c n T,some (.sh (.lst ((ap T).map eSt))),x2,x3]=some (.rt (.fr ((srt (bB T k)).map .int)))
 | [],x2,x3=>⟨x2,x3,rfl⟩
 | k::ks,x2,x3=>by
  have hb:=bar_body c W k x3;have e0:(D.int (0+((k:Nat):Int)))=D.int (k:Int):=by rw [Int.zero_add]
  have hg:∀ r,ba (aq 2) (nh c) ((k::ks).map fun k=>D.int (0+((k:Nat):Int))) [sW c n T,some (.sh (.lst ((ap T).map eSt))),x2,x3]=(nh c [sW c n T,some (.sh (.lst ((ap T).map eSt))),si k,x3]).bind (Res.loop fun δ=>ba (aq 2) (nh c) (ks.map fun k=>D.int (0+((k:Nat):Int))) δ)\/r:=by
   intro r;left;rw [List.map_cons]
   conv=>lhs;unfold ba
   rw [e0];rfl
  have hg:=(hg False).resolve_right id;by_cases h:((bB T k).length:Int)<n
  ·rw [List.find?_cons_of_pos (by simpa using h)];rw [if_pos h] at hb;simp only;rw [hg,hb];rfl
  ·rw [List.find?_cons_of_neg (by simpa using h)];rw [if_neg h] at hb;rw [hg,hb];simp only [ud,cV];exact qT W ks _ _
theorem oA {n:Int} {T:List Tie} (W:aN n T):ck c [aX c n T]=some (ao (ci n T)):=by
 have hT:=W.2.2.1;have hs:=iq c n T (by omega);have hF:dM c=(ar (sset 1 (av 1 (cB c) (ab (aa 0) af))) (ar (bN (gM (ab (ad bh (al aV (ab ((bH c.Web "ties" 1 (aW c) (aa 0) af)) af)) (ac (.int 1))) af)) (aq 2) (nh c)) (aG (bX af)))):=rfl;have hi:=rngE (f:=ad bh (al aV (ab ((bH c.Web "ties" 1 (aW c) (aa 0) af)) af)) (ac (.int 1))) (δ:=[sW c n T,some (.sh (.lst ((ap T).map eSt))),none,none]) (j:=(T.length:Int)+1) (bA (a:=.sh (.int T.length)) (b:=.sh (.int 1)) (by
  rw [b7,aE,db c (f:=aa 0) rfl];simp) rfl rfl) (by omega) (by omega)
 have e1:((T.length:Int)+1).toNat=T.length+1:=by omega
 rw [e1] at hi;have hl:=qT c W (List.range (T.length+1)) none none;have st1:sset 1 (av 1 (cB c) (ab (aa 0) af)) [sW c n T,none,none,none]=some (.nx [sW c n T,some (.sh (.lst ((ap T).map eSt))),none,none]):=dh (cs1 rfl hs) rfl rfl;unfold ci;cases ef:(List.range (T.length+1)).find? (fun k=>decide (((bB T k).length:Int)<n)) with
 | none=>
  rw [ef] at hl;obtain ⟨y2,y3,hl⟩:=hl;refine be (r:=.fr []) rfl ?_ rfl;rw [hF];refine seq1 st1 (seq1 (δ1:=[sW c n T,some (.sh (.lst ((ap T).map eSt))),y2,y3]) ?_ ?_)
  ·unfold bN;rw [hi];exact hl
  ·simp
 | some k=>
  rw [ef] at hl;refine be (r:=.fr ((srt (bB T k)).map .int)) rfl ?_ rfl;rw [hF];refine seq1 st1 ?_;rw [dX];unfold bN;rw [hi];simp only [ud];rw [hl];rfl
noncomputable def CNe:Prop:=c.Bar≠c.Ears/\c.Bar≠c.Joint/\c.Bar≠c.Turned/\c.Bar≠c.Web/\c.Ears≠c.Joint/\c.Ears≠c.Turned/\c.Ears≠c.Web/\c.Joint≠c.Turned/\c.Joint≠c.Web/\c.Turned≠c.Web
theorem is_web (hc:CNe c) (n:Int) (T:List Tie):mG c (aX c n T)=some true:=by
 unfold aX mG;obtain ⟨_,_,_,h1,_,_,h2,_,h3,h4⟩:=hc;simp [Ne.symm h1,Ne.symm h2,Ne.symm h3,Ne.symm h4]
theorem cW (hc:CNe c) {n k:Int} {T:List Tie} (h:k<=n):dF c [aX c n T,.int k]=some .non:=by
 have h1:=is_web c hc n T;have h2:¬n<k:=by omega
 have f1:=ni c (f:=aa 0) (δ:=[sW c n T,si k]) (n:=n) (T:=T) rfl;have t1:(bg (aP (ai (ax (mG c) (aa 0)))) (ai (ad oLt (bZ (isC c.Web) "points" (aa 0)) (aa 1)))) [sW c n T,si k]=some false:=
  dH (dO (aI (dP (d:=aX c n T) rfl h1))) (aI (bs (x:=some (.sh (.bl false))) f1 rfl (by simp [h2])))
 show Ew.run 2 (cC c) _=_;unfold Ew.run;have e:cC c [sW c n T,si k]=some (.nx [sW c n T,si k]):=by
  unfold cC;rw [cp,t1];rfl
 have e2:cC c ([aX c n T,D.int k].map (fun d=>some (E.sh d))++List.replicate (2-[aX c n T,D.int k].length) none)=some (.nx [sW c n T,si k]):=e;rw [e2]
noncomputable def cD (ps:List Int):D:=.obj c.Bar [("points",ao ps)]
noncomputable def aS (ws:List (Wlk Int Int)):D:=.obj c.Ears [("ears",.lst (ws.map eWk))]
theorem qU (ps:List Int):fx c [ao ps]=some [(("points" : Str),ao ps)]:=by
 refine lI fun p=>?_;have f1:=ff ps;simp only [List.all_map] at f1;simp [h7,ig,ao] at f1 ⊢
theorem j0 (ws:List (Wlk Int Int)) (h:ws.length<=1000):cU c [.lst (ws.map eWk)]=some [(("ears" : Str),D.lst (ws.map eWk))]:=by
 have:=lh c ws h;refine lI fun p=>?_;simp [h7,gQ,this]
theorem eared_bar (hc:CNe c) {n:Int} {T:List Tie} (W:aN n T) (h2:2<=n) (h:ci n T≠[]):jU c [aX c n T]=some (cD c (ci n T)):=by
 have d1:=cW c hc (T:=T) h2;have d2:=oA c W;have d3:=qU c (ci n T);have hp:0<(ci n T).length:=List.length_pos_iff.mpr h;refine jm rfl (seq1 (δ1:=[sW c n T,none]) ?_ (seq1 (δ1:=[sW c n T,some (.sh (ao (ci n T)))]) ?_ ?_))
 ·unfold gP;rw [cs2 rfl rfl d1];rfl
 ·exact dh (cs1 rfl d2) rfl rfl
 ·refine oy ?_;have t1:ai (ad oGt (al aV (ab (aa 1) af)) (ac (.int 0))) [sW c n T,some (.sh (ao (ci n T)))]=some true:=by
   simp [ao,hp]
  rw [nif_e,t1,ud,if_pos rfl];simp [jH,d3,cD]
theorem rQ (hc:CNe c) {n:Int} {T:List Tie} (W:aN n T) (h2:2<=n) (h:ci n T=[]) {ws:List (Wlk Int Int)} (hw:cQ 100 100 (ap T) [0] []=some ws) (hl:ws.length<=1000):jU c [aX c n T]=some (aS c ws):=by
 have d1:=cW c hc (T:=T) h2;have d2:=oA c W;rw [h] at d2;have d3:=j0 c ws hl;have d4:=kY c W hw;refine jm rfl (seq1 (δ1:=[sW c n T,none]) ?_ (seq1 (δ1:=[sW c n T,some (.sh (ao []))]) ?_ ?_))
 ·unfold gP;rw [cs2 rfl rfl d1];rfl
 ·exact dh (cs1 rfl d2) rfl rfl
 ·refine oy ?_;have t1:ai (ad oGt (al aV (ab (aa 1) af)) (ac (.int 0))) [sW c n T,some (.sh (ao []))]=some false:=rfl;rw [nif_e,t1,ud,if_neg Bool.false_ne_true,jH,aE,cs1 rfl d4];simp [d3,aS]
theorem pV {A:Type} {a:A}:List.lookup ("ears" : Str) [("ears",a)]=some a:=rfl
end Pg
end
section
namespace Pg
open PySem PySem.Spec L2 Ew Mx
structure oB (n:Int) (T:List Tie) (ps:List Int):Prop where
 set:isSet n ps=true
 lt:ps.Pairwise (·<·)
 pt:∀ p∈ps,0<=p/\p<n
 pos:0<ps.length
 few:(ps.length:Int)<n
 one:(T.filter (cM ps)).length<=1
theorem nj {α:Type} (p:α->Bool):∀ (T:List α) (k j:Nat),(∀ i t,T[i]?=some t->p t=true->j+i=k)->(T.filter p).length<=1
 | [],k,j,_=>by simp
 | t::T,k,j,h=>by
  by_cases hp:p t=true
  ·have h0:j+0=k:=h 0 t rfl hp;have:T.filter p=[]:=by
    rw [List.filter_eq_nil_iff];intro u hu hpu;obtain ⟨i,hi⟩:=List.getElem?_of_mem hu;have:=h (i+1) u (by simpa using hi) hpu;omega
   simp [List.filter_cons,hp,this]
  ·rw [List.filter_cons,if_neg hp];exact nj p T k (j+1) (fun i u hu hpu=>by have:=h (i+1) u (by simpa using hu) hpu;omega)
theorem bar_ok {n:Int} {T:List Tie} (W:aN n T) (h:ci n T≠[]):oB n T (ci n T):=by
 unfold ci at h ⊢;cases ef:(List.range (T.length+1)).find? (fun k=>decide (((bB T k).length:Int)<n)) with
 | none=>rw [ef] at h;exact absurd rfl h
 | some k=>
  simp only;have hk:=List.find?_some ef;simp at hk;have R:=ng W k;have hpt:=m9 W k;have hm:∀ p,p∈srt (bB T k)↔p∈bB T k:=fun p=>(gl _).mem_iff;have hl:(srt (bB T k)).length=(bB T k).length:=(gl _).length_eq;refine ⟨isSet_srt R.nd hpt,srt_lt R.nd,fun p hp=>hpt p ((hm p).1 hp),?_,by rw [hl];exact hk,?_⟩
  ·rw [hl];exact List.length_pos_of_mem R.ha
  ·refine nj _ T k 0 (fun i t hi hp=>?_);rw [Nat.zero_add];apply Classical.byContradiction;intro vj;have hcl:∀ s∈ap T,s.2.2=(i:Int)->s.1∈bB T k->s.2.1∈bB T k:=by
    intro s hs e h1;refine R.cl (s.1,s.2.1) (List.mem_map.2 ⟨s,?_,rfl⟩) h1;unfold am;rw [List.mem_filter];refine ⟨hs,?_⟩;simp;omega
   have a1:=hcl (t.1,t.2,i) (bm.2 ⟨i,t,hi,rfl,.inl ⟨rfl,rfl⟩⟩) rfl;have a2:=hcl (t.2,t.1,i) (bm.2 ⟨i,t,hi,rfl,.inr ⟨rfl,rfl⟩⟩) rfl;simp only at a1 a2;unfold cM at hp;simp only [hm] at hp;by_cases q1:t.1∈bB T k <;> by_cases q2:t.2∈bB T k <;> simp [q1,q2] at hp a1 a2
theorem full_of {n:Int} {T:List Tie} (W:aN n T) (h:ci n T=[]) (k:Nat) (hk:k<=T.length):n.toNat<=(bB T k).length:=by
 unfold ci at h;cases ef:(List.range (T.length+1)).find? (fun k=>decide (((bB T k).length:Int)<n)) with
 | none=>
  rw [List.find?_eq_none] at ef;have:=ef k (by simp;omega);simp at this;omega
 | some j=>
  rw [ef] at h;have R:=ng W j;have:=(gl (bB T j)).mem_iff.2 R.ha;simp only at h;rw [h] at this;cases this
theorem pW {n:Int} {T:List Tie} (W:aN n T) (h:ci n T=[]) (k:Nat) (hk:k<=T.length):∀ Q:Int->Prop,Q 0->(∀ s∈ap T,s.2.2≠(k:Int)->Q s.1->Q s.2.1)->∀ p,0<=p/\p<n->Q p:=by
 intro Q q0 q1 p hp;have hl:((am (ap T) [(k:Int)]).map fun s=>(s.1,s.2.1)).length+2<=100:=by
  have:=ez (L:=ap T) (ns:=[(k:Int)]);have:=br T;have:=W.2.2.1;simp only [uk];omega
 refine reach_all (L:=(am (ap T) [(k:Int)]).map fun s=>(s.1,s.2.1)) (a:=(0:Int)) (n:=100) hl (pts:=pts n) (iK n) (fun p hp=>eE.2 (m9 W k p (show p∈reach 100 _ 0 from hp))) ?_ Q q0 ?_ p (eE.2 hp)
 ·rw [eD];exact full_of W h k hk
 ·intro s hs hq;obtain ⟨t,ht,rfl⟩:=List.mem_map.1 hs;unfold am at ht;rw [List.mem_filter] at ht;refine q1 t ht.1 ?_ hq;simpa using ht.2
theorem nv {n:Int} {T:List Tie} (W:aN n T) (h:ci n T=[]):iS (ap T) 0 (fun p=>0<=p/\p<n):=by
 refine ⟨eL T,eY T,jk W,fun s hs=>⟨(bz W s hs).1,(bz W s hs).2.1⟩,fun Q q0 q1 p hp=>?_,fun s hs Q hQ h1=>?_⟩
 ·exact pW W h T.length (Nat.le_refl _) Q q0 (fun s hs _=>q1 s hs) p hp
 ·obtain ⟨i,t,hi,e,_⟩:=bm.1 hs;have hil:i<T.length:=(List.getElem?_eq_some_iff.mp hi).1;have pt:=bz W s hs;apply Classical.byContradiction;intro hn;by_cases q0:Q 0
  ·exact hn (pW W h i (by omega) Q q0 (fun t ht ne=>hQ t ht (by rw [e];exact ne)) s.1 ⟨pt.1,pt.2.1⟩)
  ·exact pW W h i (by omega) (fun p=>¬Q p) q0 (fun t ht ne hq hq2=>hq (by
    have:=hQ (turned t) (eL T t ht) (by rw [e];exact ne);exact this hq2)) s.2.1 ⟨pt.2.2.1,pt.2.2.2⟩ h1
theorem oE {n:Int} {T:List Tie} (W:aN n T) (h:ci n T=[]) (h2:2<=n):ap T≠[]:=by
 intro e;have:=(nv W h).conn (fun p=>p=0) rfl (by rw [e];simp) 1 (by omega);omega
structure EarsOk (n:Int) (T:List Tie) (ws:List (Wlk Int Int)):Prop where
 go:cQ 100 100 (ap T) [0] []=some ws
 fr:aA (ap T) [0] [] ws
 all:∀ s∈ap T,s.2.2∈ws.flatMap (·.2)
 pts:∀ p,0<=p/\p<n->p∈(0:Int)::ws.flatMap (·.1)
theorem ears_of {n:Int} {T:List Tie} (W:aN n T) (h:ci n T=[]) (h2:2<=n):∃ ws,EarsOk n T ws:=by
 have hT:=W.2.2.1;have hl:=br T;obtain ⟨e,es,g1,g2,g3⟩:=qA (nv W h) (n:=100) (f:=100) (by omega) (by omega) (oE W h h2);obtain ⟨a1,a2⟩:=qz (nv W h) g2 g3;exact ⟨e::es,g1,g2,a1,a2⟩
theorem aA.len1 {L:bn Int Int}:∀ {es:List (Wlk Int Int)} {met:List Int} {used:List Int},aA L met used es->∀ w∈es,w.1.length=w.2.length+1
 | [],_,_,_=>by simp
 | e::es,met,used,⟨h1,h2⟩=>by
  intro w hw;simp at hw;rcases hw with rfl | hw
  ·exact h1.len
  ·exact aA.len1 h2 w hw
theorem aA.pos1 {L:bn Int Int}:∀ {es:List (Wlk Int Int)} {met:List Int} {used:List Int},aA L met used es->∀ w∈es,1<=w.2.length
 | [],_,_,_=>by simp
 | e::es,met,used,⟨h1,h2⟩=>by
  intro w hw;simp at hw;rcases hw with rfl | hw
  ·exact h1.pos
  ·exact aA.pos1 h2 w hw
theorem oI {T:List Tie} {s:Int×Int×Int} (hs:s∈ap T):0<=s.2.2/\s.2.2<T.length:=by
 obtain ⟨i,t,hi,e,_⟩:=bm.1 hs;have hil:i<T.length:=(List.getElem?_eq_some_iff.mp hi).1;omega
theorem ears_few {L:bn Int Int} {es:List (Wlk Int Int)} (h:aA L [0] [] es) (hL:L.length<=100):es.length<=100:=by
 have h1:=aA.namesOf h;have h2:(es.flatMap a0).Nodup:=jM (by rw [h1];exact (aA.names h).1);have h3:=List.Nodup.length_le_of_subset h2 (l₂:=L) (aA.steps h);have h4:es.length<=(es.flatMap (·.2)).length:=by
  have hp:=aA.pos1 h;clear h h1 h2 h3
  induction es with
  | nil=>simp
  | cons e es ih=>
   have h5:=ih (fun w hw=>hp w (by simp [hw]));have h6:=hp e (by simp);rw [List.flatMap_cons,List.length_append,List.length_cons];omega
 rw [<-h1,uk] at h4;omega
variable (c:CA)
theorem fldB {f:FE} {δ:DSt} {ps:List Int} (h:f δ=some (.sh (cD c ps))):bZ (isC c.Bar) "points" f δ=some (.sh (ao ps)):=by
 rw [o6,h];simp [cD,lkp]
theorem len1 {f:FE} {δ:DSt} {ps:List Int} (h:f δ=some (.sh (ao ps))):al aV (ab f af) δ=some (.sh (.int ps.length)):=by
 rw [b7,aE,h];simp [ao]
theorem lenT {f:FE} {δ:DSt} {T:List Tie} (h:f δ=some (.sh (.lst (T.map aw)))):al aV (ab f af) δ=some (.sh (.int T.length)):=by
 rw [b7,aE,h];simp
theorem qV {f1 f2 f3:FE} {δ:DSt} {a b d:Int} (h1:f1 δ=some (.sh (.int a))) (h2:f2 δ=some (.sh (.int b))) (h3:f3 δ=some (.sh (.int d))):ai (cw oLt oLt f1 f2 f3) δ=some (decide (a<b)&&decide (b<d)):=by
 by_cases h:a<b
 ·simp [h1,h2,h3,h]
 ·simp [h1,h2,h3,h]
theorem j3 (n:Int) (T:List Tie) (ps:List Int) (h:0<=n) (h2:n<=100) (hT:T.length<=1000) :
  bT c [cD c ps,aX c n T]=some (.bl (isSet n ps&&(decide ((0:Int)<ps.length)&&decide ((ps.length:Int)<n))&&decide (((T.filter (cM ps)).length:Int)<=1))):=by
 have a2:=lg c n T ps h h2;have a3:=mV c n T ps hT;have f1:∀ δ:DSt,aa 0 δ=some (.sh (cD c ps))->bZ (isC c.Bar) "points" (aa 0) δ=some (.sh (ao ps)):=fun δ h=>fldB c h;generalize hδ:[some (E.sh (cD c ps)),some (E.sh (aX c n T))]=δ;have fδ:=f1 δ (by rw [<-hδ];rfl);have wδ:aa 1 δ=some (.sh (aX c n T)):=by rw [<-hδ];rfl
 have t1:ai (av 2 (dA c) (ab (aa 1) (ab (bZ (isC c.Bar) "points" (aa 0)) af))) δ=some (isSet n ps):=aI (call2 wδ fδ a2 (.inl ⟨rfl,rfl⟩));have t2:ai (cw oLt oLt (ac (.int 0)) (al aV (ab (bZ (isC c.Bar) "points" (aa 0)) af)) (bZ (isC c.Web) "points" (aa 1))) δ=some (decide ((0:Int)<ps.length)&&decide ((ps.length:Int)<n)):=qV rfl (len1 fδ) (ni c wδ);have t3:ad oLe (al aV (ab (av 2 (cH c) (ab (aa 1) (ab (bZ (isC c.Bar) "points" (aa 0)) af))) af)) (ac (.int 1)) δ=some (.sh (.bl (decide (((T.filter (cM ps)).length:Int)<=1)))):=by
  refine bs (len1 (call2 wδ fδ a3 (.inl ⟨rfl,rfl⟩))) rfl ?_;rw [rP];rfl
 generalize decide (((T.filter (cM ps)).length:Int)<=1)=b3 at t3;generalize (decide ((0:Int)<ps.length)&&decide ((ps.length:Int)<n))=b2 at t2;generalize isSet n ps=b1 at t1;have hF:ii c δ=some (.rt (.sh (.bl (b1&&b2&&b3)))):=by
  unfold ii;rw [dX,cp,mi,eT,t1];cases b1 with
  | false=>rfl
  | true=>
   simp only [Option.map_some,ud,Bool.not_true,eT,t2,Bool.false_eq_true,if_false];cases b2 with
   | false=>rfl
   | true=>
    simp only [Option.map_some,ud,Bool.not_true,Bool.false_eq_true,if_false];show aG _ δ=_;rw [o7,t3];rfl
 exact be (r:=.sh (.bl (b1&&b2&&b3))) hδ hF rfl
theorem qW {n:Int} {T:List Tie} (W:aN n T) {ps:List Int} (B:oB n T ps):bT c [cD c ps,aX c n T]=some (.bl true):=by
 have h1:=W.1;have h2:=W.2.1;have h3:=W.2.2.1;have:=j3 c n T ps (by omega) (by omega) (by omega);rw [this];have e1:=B.pos;have e2:=B.few;have e3:=B.one;simp [B.set];omega
noncomputable def pr2 (s:Int×Int×Int):Int×Int:=(s.1,s.2.1)
noncomputable def rch (T:List Tie) (d a:Int):List Int:=reach 100 ((bK (ap T) d).map pr2) a
theorem rch_eq {n:Int} {T:List Tie} (W:aN n T) (d a:Int):da c [.int a,.lst ((bK (ap T) d).map eSt)]=some (ao (rch T d a)):=by
 have hl:=br T;have hT:=W.2.2.1;have hb:(bK (ap T) d).length<=90:=by have:=fw (L:=ap T) (p:=d);omega
 exact mQ c Enc.int (by decide) eSt pr2 (fun s=>⟨[.int s.2.2],rfl⟩) (bK (ap T) d) a hb
theorem rch_ok {n:Int} {T:List Tie} (W:aN n T) (d a:Int):lK ((bK (ap T) d).map pr2) a (rch T d a):=jO (by
 have hl:=br T;have hT:=W.2.2.1;have:=fw (L:=ap T) (p:=d);simp;omega)
theorem rch_pt {n:Int} {T:List Tie} (W:aN n T) {d a:Int} (ha:0<=a/\a<n):∀ p∈rch T d a,0<=p/\p<n:=by
 refine (rch_ok W d a).min (fun p=>0<=p/\p<n) ha ?_;rintro s hs -;obtain ⟨t,ht,rfl⟩:=List.mem_map.1 hs;exact (bz W t (jn t ht)).2.2
theorem rch_len {n:Int} {T:List Tie} (W:aN n T) {d a:Int} (ha:0<=a/\a<n):(rch T d a).length<=8:=by
 have h1:=List.Nodup.length_le_of_subset (rch_ok W d a).nd (l₂:=pts n) (fun p hp=>eE.2 (rch_pt W ha p hp));rw [eD] at h1;have:=W.2.1;omega
theorem cut_in (ds:List D):cutD ds (some 1) (some (-1))=ds.tail.dropLast:=by
 unfold cutD HT.sIx;cases ds with
 | nil=>rfl
 | cons d ds=>
  have e1:(if (1:Int)<0 then ((1:Int)+((d::ds).length:Nat)).toNat else min (1:Int).toNat (d::ds).length)=1:=by simp
  have e2:(if (-1:Int)<0 then ((-1:Int)+((d::ds).length:Nat)).toNat else min (-1:Int).toNat (d::ds).length)=ds.length:=by simp;omega
  show List.take ((if (-1:Int)<0 then ((-1:Int)+((d::ds).length:Nat)).toNat else min (-1:Int).toNat (d::ds).length)-(if (1:Int)<0 then ((1:Int)+((d::ds).length:Nat)).toNat else min (1:Int).toNat (d::ds).length)) (List.drop (if (1:Int)<0 then ((1:Int)+((d::ds).length:Nat)).toNat else min (1:Int).toNat (d::ds).length) (d::ds))=_;rw [e1,e2,List.dropLast_eq_take];rfl
theorem j4 {f:FE} {δ:DSt} {ps:List Int} {a:Int} (h:f δ=some (.sh (ao ps))) (h1:ps.head?=some a):ad oIx f (ac (.int 0)) δ=some (.sh (.int a)):=by
 refine bA h rfl ?_;cases ps with
 | nil=>cases h1
 | cons p ps=>cases h1;simp [ao,dz]
theorem lN {f:FE} {δ:DSt} {ps:List Int} {b:Int} (h:f δ=some (.sh (ao ps))) (h1:ps.getLast?=some b):ad oIx f (dun dS (ac (.int 1))) δ=some (.sh (.int b)):=by
 refine bA (b:=.sh (.int (-1))) h rfl ?_;simp [ao,pB,getLast?_map',h1]
theorem qX {f:FE} {δ:DSt} {ps:List Int} (h:f δ=some (.sh (ao ps))):bV f (bJ (ac (.int 1))) (bJ (dun dS (ac (.int 1)))) δ=some (.fr ((ps.tail.dropLast).map .int)):=by
 unfold bV bJ;have e:dun dS (ac (.int 1)) δ=some (.sh (.int (-1))):=rfl;simp only [h,e,jb,ud,bj,ao,cut_in];rw [<-List.map_tail,List.map_dropLast]
theorem all_eq {f:DSt->Option (List R)} {δ:DSt} {bs:List Bool} (h:f δ=some [.fr (bs.map .bl)]):al iN f δ=some (.sh (.bl (bs.all id))):=by
 rw [b7,h];show iN (.lst (bs.map .bl))=_;simp [iN,iL]
theorem any_eq {f:DSt->Option (List R)} {δ:DSt} {bs:List Bool} (h:f δ=some [.fr (bs.map .bl)]):al k7 f δ=some (.sh (.bl (bs.any id))):=by
 rw [b7,h];show k7 (.lst (bs.map .bl))=_;simp [k7,iL]
theorem oIn_fr {a:Int} {ns:List Int}:oIn (.int a) (.lst (ns.map .int))=some (.sh (.bl (decide (a∈ns)))):=Enc.int.oIn (by decide) a ns
theorem any_in {fi:DSt->Option (List D)} {fe:FE} {ix:List Nat} {δ:DSt} {ps ns:List Int} (h1:fi δ=some (ps.map .int)) (hl:ps.length<=1000) (h2:∀ p,fe (some (.sh (.int p))::ix.map fun i=>(δ[i]?).join)=some (.sh (.bl (decide (p∈ns))))) :
  al k7 (ab (bI fi (aq 0) dR fe 1 ix) af) δ=some (.sh (.bl (ps.any fun p=>decide (p∈ns)))):=by
 have c1:=dG (fi:=fi) (g:=aq 0) (t:=dR) (fe:=fe) (m:=1) (ix:=ix) (δ:=δ) h1 (by simpa using hl) (dr _ _ _ _ D.int (fun _=>true) (fun p=>D.bl (decide (p∈ns))) ps (fun p _=>by
  refine ⟨some (.sh (.int p))::ix.map fun i=>(δ[i]?).join,?_,rfl,fun _=>⟨.sh (.bl (decide (p∈ns))),h2 p,rfl,rfl⟩⟩;unfold dIn aq;simp))
 have e1:(ps.filter fun _=>true)=ps:=by simp
 rw [e1] at c1;rw [any_eq (bs:=ps.map fun p=>decide (p∈ns)) (by rw [aE,c1];simp [Function.comp_def])];simp [Function.comp_def]
theorem sorted1 {f:FE} {δ:DSt} {ps:List Int} (h:f δ=some (.sh (ao ps))) (hl:ps.length<64):al eu (ab f af) δ=some (.fr ((srt ps).map .int)):=by
 rw [b7,aE,h];exact jZ ps hl
theorem lrng {f:FE} {δ:DSt} {n:Int} (h:f δ=some (.sh (.int n))) (h1:0<=n) (h2:n<=1000):fk (ab f af) δ=some (.fr ((pts n).map .int)):=by
 have e:(-1000000:Int)<=0/\(0:Int)<=1000000/\-1000000<=n/\n<=1000000:=by omega
 unfold fk;rw [aE,h];simp [rngD,e,pts]
theorem skp {t:DSt->Option Bool} {F G:FS} {δ:DSt} {x:Option Res} (h:t δ=some false) (h2:G δ=x):ar (sif t F az) G δ=x:=seq1 (δ1:=δ) (by rw [cp,h];rfl) h2
theorem stp {t:DSt->Option Bool} {d:D} {G:FS} {δ:DSt} (h:t δ=some true):ar (sif t (aG (ac d)) az) G δ=some (.rt (.sh d)):=by rw [dX,cp,h];rfl
noncomputable def nz (d:Int) (ps:List Int):D:=.obj c.Joint [("point",.int d),("others",ao ps)]
theorem nP (d:Int) (ps:List Int):cJ c [.int d,ao ps]=some [(("point" : Str),.int d),(("others" : Str),ao ps)]:=by
 refine lI fun p=>?_;have f:=ff ps;simp only [List.all_map] at f;have vj:¬(Str.ofString "others" = Str.ofString "point"):=by decide
 simp [h7,gf,ao,vj] at f ⊢
theorem iz {f:FE} {δ:DSt} {r:R} {ps:List Int} (h:f δ=some r) (hv:r.view=ao ps):al aV (ab f af) δ=some (.sh (.int ps.length)):=by
 rw [b7,aE,h];show aV r.view=_;rw [hv];simp [ao,aV]
theorem and_ff {fa fb:FE} {δ:DSt} (h1:fa δ=some (.sh (.bl false))):g7 fa fb δ=some (.sh (.bl false)):=by rw [dand_e,h1];rfl
theorem pX {fa fb:FE} {δ:DSt} {a b:Bool} (h1:fa δ=some (.sh (.bl a))) (h2:fb δ=some (.sh (.bl b))):g7 fa fb δ=some (.sh (.bl (a&&b))):=by
 cases a
 ·exact and_ff h1
 ·exact pQ h1 h2
theorem or_bb {t u:DSt->Option Bool} {δ:DSt} {a b:Bool} (h1:t δ=some a) (h2:u δ=some b):bg t u δ=some (a||b):=by
 rw [mi,h1];cases a
 ·exact h2
 ·rfl
theorem pY {t u:DSt->Option Bool} {δ:DSt} {a b:Bool} (h1:t δ=some a) (h2:u δ=some b):cx t u δ=some (a&&b):=by
 rw [lF,h1];cases a
 ·rfl
 ·exact h2
theorem pZ {t:DSt->Option Bool} {b:Bool} {d:D} {G:FS} {δ:DSt} (h:t δ=some b):ar (sif t (aG (ac d)) az) G δ=if b=true then some (.rt (.sh d)) else G δ:=by
 cases b
 ·exact skp h rfl
 ·exact stp h
theorem gm {n:Int} {T:List Tie} (W:aN n T) {met used:List Int} {w:Wlk Int Int} (h:Ear (ap T) met used w):gJ n T w/\w.2.length<=T.length:=by
 have hl:=h.len;have hp:=h.pos;have hn:∀ x∈w.2,0<=x/\x<(T.length:Int):=by
  intro x hx;rw [<-h.nm] at hx;obtain ⟨s,hs,rfl⟩:=List.mem_map.1 hx;exact oI (h.st s hs).1
 have hle:w.2.length<=T.length:=by
  have:=List.Nodup.length_le_of_subset h.nd (l₂:=pts T.length) (fun x hx=>eE.2 (hn x hx));rw [eD] at this;simpa using this
 refine ⟨⟨hl,fun p hp1=>?_,fun s hs=>(h.st s hs).1,by have:=W.2.2.1;omega⟩,hle⟩;obtain ⟨i,hi,rfl⟩:=List.mem_iff_getElem.1 hp1;by_cases hi2:i<w.2.length
 ·have:=bz W _ (h.st _ (iu hl hi2)).1;exact ⟨this.1,this.2.1⟩
 ·have hk:i-1<w.2.length:=by omega
  have:=bz W _ (h.st _ (iu hl hk)).1;have e:i-1+1=i:=by omega
  simp only [e] at this;exact ⟨this.2.2.1,this.2.2.2⟩
theorem jo {f:FE} {δ:DSt} {ds:List D} (h:f δ=some (.sh (.lst ds))):bV f (bJ (ac (.int 1))) eG δ=some (.fr ds.tail):=by
 unfold bV;rw [h];simp [bJ,eG,cut1]
theorem nQ {n:Int} {T:List Tie} {w:Wlk Int Int} (h:w.1.length≠w.2.length+1):gd c [aX c n T,eWk w]=some (.bl false):=by
 refine be (r:=.sh (.bl false)) rfl ?_ rfl;have e1:sset 2 (ad oIx (aa 1) (ac (.int 0))) [sW c n T,sK w,none,none,none]=some (.nx [sW c n T,sK w,sI w.1,none,none]):=dh (dN (f:=aa 1) rfl) rfl rfl;have e2:sset 3 (ad oIx (aa 1) (ac (.int 1))) [sW c n T,sK w,sI w.1,none,none]=some (.nx [sW c n T,sK w,sI w.1,sI w.2,none]):=dh (iW (f:=aa 1) rfl) rfl rfl;have e3:sset 4 ((bH c.Web "ties" 1 (aW c) (aa 0) af)) [sW c n T,sK w,sI w.1,sI w.2,none]=some (.nx [sW c n T,sK w,sI w.1,sI w.2,some (.sh (.lst (T.map aw)))]):=dh (db c (f:=aa 0) rfl) rfl rfl;refine seq1 e1 (seq1 e2 (seq1 e3 ?_));have vj:¬((w.1.length:Int)=(w.2.length:Int)+1):=by omega
 exact stp (aI (b:=true) (bA (a:=.sh (.int w.1.length)) (b:=.sh (.int (w.2.length+1))) (iz (r:=.sh (ao w.1)) rfl rfl) (bA (a:=.sh (.int w.2.length)) (b:=.sh (.int 1)) (iz (r:=.sh (ao w.2)) rfl rfl) rfl (by simp)) (by simp [vj])))
noncomputable def gp (n:Int) (T:List Tie) (w:Wlk Int Int):Bool:=decide (w.1.length=w.2.length+1)&&(w.1.all (mT n)&&(w.2.all (fun p=>decide (0<=p)&&decide (p<T.length))&&w.2.zipIdx.all fun p=>decide (T.getD p.1.toNat (0,0)=fT (w.1.getD p.2 0) (w.1.getD (p.2+1) 0))))
theorem all_bl {fi:DSt->Option (List D)} {g:GD} {fe:FE} {m:Nat} {ix:List Nat} {δ:DSt} {α:Type} {e:α->D} {xs:List α} {b:α->Bool} (h1:fi δ=some (xs.map e)) (hl:xs.length<=1000)
  (h2:∀ x∈xs,∃ δ1,g (e x) (dIn m ix δ)=some δ1/\fe δ1=some (.sh (.bl (b x)))):al iN (ab (bI fi g dR fe m ix) af) δ=some (.sh (.bl (xs.all b))):=by
 have c1:=dG (fi:=fi) (g:=g) (t:=dR) (fe:=fe) (m:=m) (ix:=ix) (δ:=δ) h1 (by simpa using hl) (dr _ _ _ _ e (fun _=>true) (fun x=>D.bl (b x)) xs (fun x hx=>by
  obtain ⟨δ1,q1,q2⟩:=h2 x hx;exact ⟨δ1,q1,rfl,fun _=>⟨.sh (.bl (b x)),q2,rfl,rfl⟩⟩))
 rw [List.filter_eq_self.2 (fun _ _=>rfl)] at c1;rw [all_eq (bs:=xs.map b) (by rw [aE,c1];simp [Function.comp_def])];simp [Function.comp_def]
theorem nB {n:Int} {T:List Tie} {w:Wlk Int Int} (l1:w.1.length<=1000) (l2:w.2.length<=1000):gd c [aX c n T,eWk w]=some (.bl (gp n T w)):=by
 by_cases hl:w.1.length=w.2.length+1
 case neg=>rw [nQ c hl];simp [gp,hl]
 have e1:sset 2 (ad oIx (aa 1) (ac (.int 0))) [sW c n T,sK w,none,none,none]=some (.nx [sW c n T,sK w,sI w.1,none,none]):=dh (dN (f:=aa 1) rfl) rfl rfl;have e2:sset 3 (ad oIx (aa 1) (ac (.int 1))) [sW c n T,sK w,sI w.1,none,none]=some (.nx [sW c n T,sK w,sI w.1,sI w.2,none]):=dh (iW (f:=aa 1) rfl) rfl rfl;have e3:sset 4 ((bH c.Web "ties" 1 (aW c) (aa 0) af)) [sW c n T,sK w,sI w.1,sI w.2,none]=some (.nx [sW c n T,sK w,sI w.1,sI w.2,some (.sh (.lst (T.map aw)))]):=dh (db c (f:=aa 0) rfl) rfl rfl;generalize hδ:[sW c n T,sK w,sI w.1,sI w.2,some (.sh (.lst (T.map aw)))]=δ at e3;have fz2:frz 2 δ=δ:=by rw [<-hδ];rfl
 have fz3:frz 3 δ=δ:=by rw [<-hδ];rfl
 have c1:=all_bl (fi:=aH (aa 2)) (g:=aq 0) (fe:=av 2 (eI c) (ab (aa 1) (ab (aa 0) af))) (m:=1) (ix:=[0]) (δ:=δ) (e:=D.int) (xs:=w.1) (b:=mT n) (by rw [<-hδ];rfl) l1 (fun p _=>⟨_,rfl,by rw [<-hδ];exact cs2 rfl rfl (pN c n p T)⟩);have c2:=all_bl (fi:=aH (aa 3)) (g:=aq 0) (fe:=cw oLe oLt (ac (.int 0)) (aa 0) (al aV (ab (aa 1) af))) (m:=1) (ix:=[4]) (δ:=δ) (e:=D.int) (xs:=w.2) (b:=fun p=>decide (0<=p)&&decide (p<T.length)) (by rw [<-hδ];rfl) l2 (fun p _=>⟨_,rfl,by
  rw [<-hδ];by_cases h0:0<=p <;> simp [dIn,h0]⟩)
 have tl:∀ G:FS,ar (sif (ai (ad oNe (al aV (ab (aa 2) af)) (ad bh (al aV (ab (aa 3) af)) (ac (.int 1))))) (aG (ac (.bl false))) az) G δ=G δ:=fun G=>skp (by rw [<-hδ];exact aI (b:=false) (bA (a:=.sh (.int w.1.length)) (b:=.sh (.int (w.2.length+1))) (iz (r:=.sh (ao w.1)) rfl rfl) (bA (a:=.sh (.int w.2.length)) (b:=.sh (.int 1)) (iz (r:=.sh (ao w.2)) rfl rfl) rfl (by simp)) (by simp [hl]))) rfl;refine be (r:=.sh (.bl _)) rfl (seq1 e1 (seq1 e2 (seq1 e3 ((tl _).trans ?_)))) rfl;unfold gp;rw [decide_eq_true hl,Bool.true_and];by_cases b1:w.1.all (mT n)=true
 case neg=>
  have b1':w.1.all (mT n)=false:=by simpa using b1
  rw [b1'] at c1 ⊢;rw [dX,dq,fz2,cp,eT,cb,c1];rfl
 rw [b1] at c1 ⊢;rw [Bool.true_and];refine seq1 (δ1:=δ) (by rw [dq,fz2,cp,eT,cb,c1];rfl) ?_;by_cases b2:w.2.all (fun p=>decide (0<=p)&&decide (p<T.length))=true
 case neg=>
  have b2':w.2.all (fun p=>decide (0<=p)&&decide (p<T.length))=false:=by simpa using b2
  rw [b2'] at c2 ⊢;rw [dX,dq,fz3,cp,eT,cb,c2];rfl
 rw [b2] at c2 ⊢;rw [Bool.true_and];refine seq1 (δ1:=δ) (by rw [dq,fz3,cp,eT,cb,c2];rfl) ?_;rw [dq,fz3];refine gX (all_bl (e:=fun p:Int×Nat=>D.tup [.int (p.2:Int),.int p.1]) ?_ (by simpa using l2) (fun p hp=>?_)) rfl
 ·rw [<-hδ];unfold mh;simp only [aE,fK,dW,uj,ug,ud,gw,bj,Bool.false_eq_true,if_false,uk,ao];congr 1;refine List.ext_getElem? fun i=>?_;rw [List.getElem?_zipWith,List.getElem?_map,List.getElem?_map,List.getElem?_zipIdx];by_cases hi:i<w.2.length
  ·rw [List.getElem?_range hi,List.getElem?_eq_getElem hi];simp
  ·rw [List.getElem?_eq_none (show (List.range w.2.length).length<=i by simp;omega),List.getElem?_eq_none (show w.2.length<=i by omega)];rfl
 ·obtain ⟨pl,k⟩:=p;have hk0:=List.mem_zipIdx_iff_getElem?.1 hp;simp only at hk0;have hk:=(List.getElem?_eq_some_iff.mp hk0).1;have hpl:=List.all_eq_true.1 b2 pl (List.mem_of_getElem? hk0);simp only [um,decide_eq_true_eq] at hpl;refine ⟨_,rfl,?_⟩;have hpt:pl.toNat<T.length:=by omega
  have g1:atI (T.map aw) pl=some (aw (T.getD pl.toNat (0,0))):=by
   rw [jY hpl.1,List.getElem?_map,List.getElem?_eq_getElem hpt];simp [List.getD,hpt]
  have hk1:k<w.1.length:=by omega
  have hk2:k+1<w.1.length:=by omega
  have g2:atI (w.1.map D.int) (k:Int)=some (.int (w.1.getD k 0)):=by rw [jh,List.getElem?_map,List.getElem?_eq_getElem hk1];simp [List.getD,hk1]
  have g3:atI (w.1.map D.int) ((k:Int)+1)=some (.int (w.1.getD (k+1) 0)):=by
   rw [show (k:Int)+1=((k+1:Nat):Int) by omega,jh,List.getElem?_map,List.getElem?_eq_getElem hk2];simp [List.getD,hk2]
  rw [<-hδ];refine bA (a:=.sh (aw (T.getD pl.toNat (0,0)))) (b:=.sh (aw (fT (w.1.getD k 0) (w.1.getD (k+1) 0)))) ?_ ?_ (oEq_tie _ _)
  ·exact bA (a:=.sh (.lst (T.map aw))) (b:=.sh (.int pl)) rfl rfl (by simp only [bj,kI,g1];rfl)
  ·refine cs2 ?_ ?_ (mU c _ _)
   ·exact bA (a:=.sh (ao w.1)) (b:=.sh (.int k)) rfl rfl (by simp only [bj,ao,kI,g2];rfl)
   ·exact bA (a:=.sh (ao w.1)) (b:=.sh (.int ((k:Int)+1))) rfl rfl (by simp only [bj,ao,kI,g3];rfl)
theorem nC {n:Int} {T:List Tie} (W:aN n T) {w:Wlk Int Int} (h:gJ n T w):gp n T w=true:=by
 have hl:=h.len;unfold gp;simp only [um,decide_eq_true_eq,List.all_eq_true];refine ⟨hl,fun p hp=>?_,fun p hp=>?_,fun p hp=>?_⟩
 ·have:=h.pt p hp;unfold mT;simp [this]
 ·obtain ⟨k,hk,rfl⟩:=List.mem_iff_getElem.1 hp;have:=h.tie W hk;exact ⟨this.1,this.2.1⟩
 ·obtain ⟨pl,k⟩:=p;have hk0:=List.mem_zipIdx_iff_getElem?.1 hp;simp only at hk0;obtain ⟨hk,hkv⟩:=List.getElem?_eq_some_iff.mp hk0;have ht:=h.tie W hk;rw [hkv] at ht;have g1:k<w.1.length:=by omega
  have g2:k+1<w.1.length:=by omega
  simp [List.getD,ht.2.2,g1,g2]
theorem oJ {n:Int} {T:List Tie} {w:Wlk Int Int} (h:gp n T w=true):w.1.length=w.2.length+1:=by
 unfold gp at h;simp only [um,decide_eq_true_eq] at h;exact h.1
theorem ends_of {w:Wlk Int Int} (h:w.1.length=w.2.length+1):∃ a b,w.1.head?=some a/\w.1.getLast?=some b:=by
 cases e:w.1 with
 | nil=>rw [e] at h;simp at h
 | cons p ps=>exact ⟨p,_,rfl,List.getLast?_eq_some_getLast (by simp)⟩
section
variable {n:Int} {T:List Tie} {w:Wlk Int Int} (l1:w.1.length<=1000) (l2:w.2.length<=1000)
include l1 l2
theorem rR:mL c [aX c n T,eWk w]=some (.bl (gp n T w&&decide w.1.Nodup)):=
 be (r:=.sh (.bl _)) rfl (gX (pX (cs2 rfl rfl (nB c l1 l2)) (cs1 (dN rfl) (fU c w.1 l1))) rfl) rfl
noncomputable def j5 (n:Int) (T:List Tie) (w:Wlk Int Int):Bool:=if (!gp n T w||decide ((w.2.length:Int)<2))=true then false else decide (w.1.headD 0=w.1.getLastD 0)&&(decide w.1.tail.Nodup&&decide w.2.Nodup)
noncomputable def furB (n:Int) (T:List Tie) (w:Wlk Int Int) (ahead:List Int):Bool:=if (!(gp n T w&&decide w.1.Nodup)&&!j5 n T w)=true then false else if (decide ((w.2.length:Int)<1)||(!decide (w.1.headD 0∈ahead)||!decide (w.1.getLastD 0∈ahead)))=true then false else !(w.1.tail.dropLast.any fun p=>decide (p∈ahead))
theorem jp:iJ c [aX c n T,eWk w]=some (.bl (j5 n T w)):=by
 have h2:=fU c w.1.tail (by simp;omega);have h3:=fU c w.2 l2;refine be (r:=.sh (.bl _)) rfl ((pZ (or_bb (dO (aI (cs2 rfl rfl (nB c l1 l2)))) (aI (bs (iz (iW (f:=aa 1) rfl) rfl) rfl (oLt_ii _ _))))).trans ?_) rfl;unfold j5;split
 ·rfl
 ·next h=>
  have hb:gp n T w=true:=by
   simp at h;exact h.1
  obtain ⟨a,b,ha,hz⟩:=ends_of (oJ hb);rw [List.headD_eq_head?_getD,List.getLastD_eq_getLast?,ha,hz];refine gX (pX (bs (j4 (dN (f:=aa 1) rfl) ha) (lN (dN (f:=aa 1) rfl) hz) (by simp)) (pX (call1 (r1:=.fr (w.1.tail.map .int)) ?_ h2 (.inl rfl)) (cs1 (iW (f:=aa 1) rfl) h3))) rfl;rw [jo (ds:=w.1.map .int) (dN (f:=aa 1) rfl),List.map_tail]
theorem rS (ahead:List Int):cI c [aX c n T,eWk w,ao ahead]=some (.bl (furB n T w ahead)):=by
 refine be (δ:=[sW c n T,sK w,sI ahead]) (r:=.sh (.bl _)) rfl ((pZ (pY (dO (aI (cs2 rfl rfl (rR c l1 l2)))) (dO (aI (cs2 rfl rfl (jp c l1 l2)))))).trans ?_) rfl;unfold furB;split
 ·rfl
 ·next h=>
  have hb:gp n T w=true:=by
   cases e:gp n T w
   ·simp [j5,e] at h
   ·rfl
  obtain ⟨a,b,ha,hz⟩:=ends_of (oJ hb);rw [List.headD_eq_head?_getD,List.getLastD_eq_getLast?,ha,hz];have an:=any_in (fi:=aH (bV (ad oIx (aa 1) (ac (.int 0))) (bJ (ac (.int 1))) (bJ (dun dS (ac (.int 1)))))) (fe:=ad oIn (aa 0) (aa 1)) (ix:=[2]) (δ:=[sW c n T,sK w,sI ahead]) (ps:=w.1.tail.dropLast) (ns:=ahead) (by rw [cq,qX (dN (f:=aa 1) rfl)];rfl) (by simp;omega) (fun p=>bs rfl rfl oIn_fr);refine (pZ (or_bb (aI (bs (iz (iW (f:=aa 1) rfl) rfl) rfl (oLt_ii _ _))) (or_bb (aI (bs (j4 (dN (f:=aa 1) rfl) ha) rfl (Enc.int.oNotIn (by decide) a ahead))) (aI (bs (lN (dN (f:=aa 1) rfl) hz) rfl (Enc.int.oNotIn (by decide) b ahead)))))).trans ?_;simp only [Option.getD_some];split
  ·rfl
  ·refine gX ?_ rfl;rw [dnot_e,an];rfl
end
theorem nD {n:Int} {T:List Tie} (W:aN n T) {w:Wlk Int Int} (h:gJ n T w) (k1:w.1.tail.Nodup) (k2:w.1.head?=w.1.getLast?) (k3:2<=w.2.length) (nd:w.2.Nodup):j5 n T w=true:=by
 unfold j5;rw [if_neg (by simp [nC W h];omega),List.headD_eq_head?_getD,List.getLastD_eq_getLast?,k2];simp [k1,nd]
theorem furB_true {n:Int} {T:List Tie} (W:aN n T) {met used:List Int} {w:Wlk Int Int} (h:Ear (ap T) met used w) {ahead:List Int} (hm:∀ p,p∈ahead↔p∈met):furB n T w ahead=true:=by
 have hw:=(gm W h).1;have hp:=h.pos;obtain ⟨a,ha,ha2⟩:=h.hd;obtain ⟨b,hb,hb2⟩:=h.lt;unfold furB;rw [if_neg,if_neg,Bool.not_eq_true',List.any_eq_false]
 ·intro p hp1;simpa [hm] using h.inn p hp1
 ·rw [List.headD_eq_head?_getD,List.getLastD_eq_getLast?,ha,hb];simp [hm,ha2,hb2];omega
 ·rw [nC W hw];rcases h.kind with k | ⟨k1,k2,k3⟩
  ·simp [k]
  ·simp [nD W hw k1 k2 k3 h.nd]
theorem for_rt {it:DSt->Option (List D)} {g:GD} {B G:FS} {δ:DSt} {items:List D} {r:R} (hi:it δ=some items) (h:ba g B items δ=some (.rt r)):ar (bN it g B) G δ=some (.rt r):=by
 rw [dX];unfold bN;rw [hi];simp only [ud];rw [h];rfl
theorem list1 {f:FE} {δ:DSt} {ps:List Int} (h:f δ=some (.sh (ao ps))):al dI (ab f af) δ=some (.fr (ps.map .int)):=by
 rw [b7,aE,h];rfl
theorem fldE {f:FE} {δ:DSt} {ws:List (Wlk Int Int)} (h:f δ=some (.sh (aS c ws))):bZ (isC c.Ears) "ears" f δ=some (.sh (.lst (ws.map eWk))):=by
 rw [o6,h];simp [aS,pV]
theorem lenW {f:FE} {δ:DSt} {ws:List (Wlk Int Int)} (h:f δ=some (.sh (.lst (ws.map eWk)))):al aV (ab f af) δ=some (.sh (.int ws.length)):=by
 rw [b7,aE,h];simp [aV]
theorem ixW0 {f:FE} {δ:DSt} {w:Wlk Int Int} {ws:List (Wlk Int Int)} (h:f δ=some (.sh (.lst ((w::ws).map eWk)))):ad oIx f (ac (.int 0)) δ=some (.sh (eWk w)):=bA h rfl (by simp [dz])
structure gU (n:Int) (T:List Tie) (e:Wlk Int Int) (es:List (Wlk Int Int)):Prop where
 ok:EarsOk n T (e::es)
noncomputable def bodyS:FS:=(ar (sif (aP (ai (av 3 (cI c) (ab (aa 1) (ab (aa 3) (ab (aa 2) af)))))) (aG (ac (.bl false))) az) (k8 2 (ad oIx (aa 3) (ac (.int 0)))))
noncomputable def allF (n:Int) (T:List Tie):List Int->List (Wlk Int Int)->Bool
 | _,[]=>true
 | ahead,w::ws=>furB n T w ahead&&allF n T (ahead++w.1) ws
theorem oK {n:Int} {T:List Tie} (W:aN n T):∀ {ws:List (Wlk Int Int)} {met used ahead:List Int},aA (ap T) met used ws->(∀ p,p∈ahead↔p∈met)->allF n T ahead ws=true
 | [],_,_,_,_,_=>rfl
 | w::ws,_,_,_,⟨h1,h2⟩,hm=>by
  unfold allF;rw [furB_true W h1 hm,Bool.true_and];exact oK W h2 (fun p=>by rw [List.mem_append,List.mem_append,hm])
theorem loop_eq {e0 e4:Option E} {n:Int} {T:List Tie}:∀ (ws:List (Wlk Int Int)) (ahead:List Int) (x3:Option E),(∀ w∈ws,w.1.length<=20/\w.2.length<=20)->ahead.length+20*ws.length<=10000->
  ∃ y3,ba (aq 3) (bodyS c) (ws.map eWk) [e0,sW c n T,some (.ow (ahead.map .int)),x3,e4]=if allF n T ahead ws=true then some (.nx [e0,sW c n T,some (.ow ((ahead++ws.flatMap (·.1)).map .int)),y3,e4]) else some (.rt (.sh (.bl false)))
 | [],ahead,x3,_,_=>⟨x3,by simp [ba,allF]⟩
 | w::ws,ahead,x3,h,hl=>by
  obtain ⟨l1,l2⟩:=h w (by simp);simp only [List.length_cons] at hl;have t:=dO (aI (call3 (f1:=aa 1) (f2:=aa 3) (f3:=aa 2) (δ:=[e0,sW c n T,some (.ow (ahead.map .int)),sK w,e4]) (r1:=.sh (aX c n T)) (r2:=.sh (eWk w)) (r3:=.bw (ahead.map .int)) rfl rfl rfl (rS c (w:=w) (by omega) (by omega) ahead) (.inr rfl)));obtain ⟨y,ih⟩:=loop_eq ws (ahead++w.1) (sK w) (fun x hx=>h x (by simp [hx])) (by simp only [List.length_append];omega);refine ⟨y,?_⟩;rw [List.map_cons];unfold ba allF;show ((bodyS c [e0,sW c n T,some (.ow (ahead.map .int)),sK w,e4]).bind _)=_;cases hf:furB n T w ahead with
  | false=>
   rw [hf] at t;unfold bodyS;rw [stp t];rfl
  | true=>
   rw [hf] at t;have hb:bodyS c [e0,sW c n T,some (.ow (ahead.map .int)),sK w,e4]=some (.nx [e0,sW c n T,some (.ow ((ahead++w.1).map .int)),sK w,e4]):=by
    refine skp t ?_;unfold k8;show (ad oIx (aa 3) (ac (.int 0)) _).bind _=_;rw [dN (w:=w) rfl];show (if (ahead.map D.int).length+(w.1.map D.int).length<=big then _ else _)=_;rw [if_pos (by rw [bo];simp only [uk];omega)];simp
   rw [hb];simp only [ud,cV,Bool.true_and,List.flatMap_cons,<-List.append_assoc];exact ih
theorem filt8:∀ k:Nat,k<=8->(List.range 8).filter (fun i=>decide (i<k))=List.range k:=by
 intro k hk;have:k=0\/k=1\/k=2\/k=3\/k=4\/k=5\/k=6\/k=7\/k=8:=by omega
 rcases this with rfl | rfl | rfl | rfl | rfl | rfl | rfl | rfl | rfl <;> rfl
theorem below_pts {n:Int} (h0:0<=n) (h8:n<=8) {ps:List Int} (h:∀ p,p∈ps↔0<=p/\p<n):jL ps=some (pts n):=by
 have ha:ps.all (fun n=>decide (0<=n)&&decide (n<8))=true:=by
  rw [List.all_eq_true];intro p hp;have:=(h p).1 hp;simp;omega
 unfold jL pj pts;rw [if_pos ha];congr 1;rw [<-filt8 n.toNat (by omega)];have:(List.range 8).filter (fun i=>decide (Int.ofNat i∈ps))=(List.range 8).filter (fun i=>decide (i<n.toNat)):=by
  refine List.filter_congr fun i _=>decide_eq_decide.mpr ?_;rw [h];simp
 rw [this];rfl
theorem aA.ptm {n:Int} {T:List Tie} (W:aN n T):∀ {es:List (Wlk Int Int)} {met used:List Int},aA (ap T) met used es->∀ w∈es,(∀ p∈w.1,0<=p/\p<n)/\w.2.length<=T.length/\gJ n T w/\w.2.Nodup
 | [],_,_,_=>by simp
 | e::es,_,_,h=>by
  intro w hw;rcases List.mem_cons.1 hw with rfl | hw
  ·obtain ⟨a,b⟩:=gm W h.1;exact ⟨a.pt,b,a,h.1.nd⟩
  ·exact aA.ptm W h.2 w hw
section
variable {n:Int} {T:List Tie} (W:aN n T) {e:Wlk Int Int} {es:List (Wlk Int Int)} (O:gU n T e es)
include W O
theorem gU.zero:(0:Int)∈e.1:=by
 obtain ⟨a,ha,hb⟩:=O.ok.fr.1.hd;simp at hb;subst hb;exact List.mem_of_mem_head? ha
theorem gU.pts_iff (p:Int):p∈e.1++es.flatMap (·.1)↔0<=p/\p<n:=by
 constructor
 ·intro hp;have hp':p∈(e::es).flatMap (·.1):=by simpa using hp
  obtain ⟨w,hw,hq⟩:=List.mem_flatMap.1 hp';exact (aA.ptm W O.ok.fr w hw).1 p hq
 ·intro hp;have:=O.ok.pts p hp;rcases List.mem_cons.1 this with rfl | h
  ·exact List.mem_append.2 (.inl (O.zero W))
  ·simpa using h
theorem gU.names:srt ((e::es).flatMap (·.2))=pts T.length/\((e::es).flatMap (·.2)).length<=14/\((e::es).flatMap (·.2)).length=T.length:=by
 have nd:=(aA.names O.ok.fr).1;have hm:∀ x,x∈(e::es).flatMap (·.2)↔x∈pts T.length:=by
  intro x;rw [eE];constructor
  ·intro hx;rw [<-aA.namesOf O.ok.fr] at hx;obtain ⟨s,hs,rfl⟩:=List.mem_map.1 hx;exact oI (aA.steps O.ok.fr s hs)
  ·intro hx;have hi:x.toNat<T.length:=by omega
   have hs:(T[x.toNat].1,T[x.toNat].2,x)∈ap T:=bm.2 ⟨x.toNat,T[x.toNat],List.getElem?_eq_getElem hi,by simp;omega,.inl ⟨rfl,rfl⟩⟩;exact O.ok.all _ hs
 have hperm:(pts T.length).Perm ((e::es).flatMap (·.2)):=(List.perm_ext_iff_of_nodup (iK _) nd).2 (fun x=>(hm x).symm);have hlen:=hperm.length_eq;rw [eD] at hlen;have hT:=W.2.2.1;exact ⟨(srt_eq hperm ((pts_lt _).imp (fun h=>by omega))).symm,by omega,by omega⟩
theorem gU.few:es.length+1<=100:=by
 have hl:=br T;have hT:=W.2.2.1;have:=ears_few O.ok.fr (by omega);simpa using this
theorem gU.small:∀ w∈e::es,w.1.length<=20/\w.2.length<=20:=by
 intro w hw;have q:=aA.ptm W O.ok.fr w hw;have:=q.2.2.1.len;have:=W.2.2.1;omega
theorem qY (S:List Tie) (hS:S.length<=T.length):bb c [aS c (e::es),aX c n S]=some (.bl (j5 n S e&&(allF n S e.1 es&&decide (pts T.length=pts S.length)))):=by
 have hT:=W.2.2.1;have hn1:=W.1;have hn2:=W.2.1;have few:=O.few W;have sm:=O.small W;obtain ⟨s1,s2⟩:=sm e (by simp);obtain ⟨nm1,nm2,nm3⟩:=O.names W;have a2:=pR c (e::es) (by omega);have a3:=eC c n S (by omega) (by omega);obtain ⟨y3,lp⟩:=loop_eq c (e0:=some (.sh (aS c (e::es)))) (e4:=none) (n:=n) (T:=S) es e.1 none (fun w hw=>sm w (by simp [hw])) (by omega);have b2:=below_pts (by omega) hn2 (O.pts_iff W);have t:=or_bb (a:=false) (aI (bs (fb:=ac (.int 1)) (o:=oLt) (lenW (fldE c (f:=aa 0) (δ:=[some (.sh (aS c (e::es))),sW c n S,none,none,none]) rfl)) rfl (by simp;omega))) (dO (aI (cs2 (f1:=aa 1) rfl (ixW0 (fldE c (f:=aa 0) rfl)) (jp c (n:=n) (T:=S) (by omega) (by omega)))));refine be (δ:=[some (.sh (aS c (e::es))),sW c n S,none,none,none]) (r:=.sh (.bl _)) rfl ?_ rfl;cases hr:j5 n S e with
 | false=>
  rw [hr] at t;exact stp t
 | true=>
  rw [hr] at t;refine skp t (seq1 (δ1:=[some (.sh (aS c (e::es))),sW c n S,some (.ow (e.1.map .int)),none,none]) (dh (list1 (dN (ixW0 (fldE c (f:=aa 0) rfl)))) rfl rfl) ?_);have hi:aH (bV (bZ (isC c.Ears) "ears" (aa 0)) (bJ (ac (.int 1))) eG) [some (.sh (aS c (e::es))),sW c n S,some (.ow (e.1.map .int)),none,none]=some (es.map eWk):=by
   rw [cq,jo (fldE c (f:=aa 0) rfl)];rfl
  cases hf:allF n S e.1 es with
  | false=>
   rw [hf] at lp;exact for_rt hi lp
  | true=>
   rw [hf] at lp;refine seq1 (δ1:=[some (.sh (aS c (e::es))),sW c n S,some (.ow ((e.1++es.flatMap (·.1)).map .int)),y3,none]) (by
    unfold bN;rw [hi];exact lp) (seq1 (δ1:=[some (.sh (aS c (e::es))),sW c n S,some (.ow ((e.1++es.flatMap (·.1)).map .int)),y3,some (.ow ((pts S.length).map .int))]) (dh (r:=.fr ((pts S.length).map .int)) (lrng (lenT (db c (f:=aa 1) rfl)) (by omega) (by omega)) rfl rfl) (gX (r:=.sh (.bl _)) (Eq.trans (pX (b:=true) (bA (a:=.fr ((srt ((e::es).flatMap (·.2))).map .int)) (b:=.bw ((pts S.length).map .int)) (sorted1 (ps:=(e::es).flatMap (·.2)) (cs1 (fldE c (f:=aa 0) rfl) a2) (by omega)) rfl (by rw [nm1];exact jD _ _)) ?_) (by rw [Bool.and_true];rfl)) rfl))
   ·refine bA (a:=.fr ((pts n).map .int)) (b:=.sh (ao (pts n))) ?_ (cs1 rfl a3) ((jD _ _).trans (by simp));unfold lJ;show (some (R.bw ((e.1++es.flatMap (·.1)).map .int))).bind _=_;show ((nums ((e.1++es.flatMap (·.1)).map .int)).bind fun ns=>(jL ns).bind fun l=>some (R.fr (l.map .int)))=_;rw [d0];show ((jL (e.1++es.flatMap (·.1))).bind fun l=>some (R.fr (l.map .int)))=_;rw [b2];rfl
theorem rT:bb c [aS c (e::es),aX c n T]=some (.bl true):=by
 obtain ⟨hf1,hf2⟩:=O.ok.fr;obtain ⟨k1,k2,k3⟩:=Ear.ring hf1;have z0:=O.zero W;rw [qY c W O T (Nat.le_refl _),nD W (gm W hf1).1 k1 k2 k3 hf1.nd,oK W hf2]
 ·simp
 ·intro p;rw [List.mem_append,List.mem_singleton];constructor
  ·exact .inr
  ·rintro (rfl | q)
   ·exact z0
   ·exact q
theorem gU.tne:0<T.length:=by
 obtain ⟨_,_,h⟩:=O.names W;have hp:=O.ok.fr.1.pos;simp only [List.flatMap_cons,List.length_append] at h;omega
theorem rV:bb c [aS c (e::es),aX c n T.tail]=some (.bl false):=by
 have tne:=O.tne W;have:¬(pts T.length=pts T.tail.length):=fun q=>by
  have:=congrArg List.length q;rw [eD,eD] at this;simp at this;omega
 rw [qY c W O T.tail (by simp),decide_eq_false this];simp
end
theorem okD_ears (ws:List (Wlk Int Int)):okD (.lst (ws.map eWk))=true:=ml fun d hd=>by
 obtain ⟨w,_,rfl⟩:=List.mem_map.mp hd;have hi:∀ ns:List Int,(D.lst (ns.map .int)).plain=true/\(D.lst (ns.map .int)).py.canLay0=true/\(D.lst (ns.map .int)).py.depth<=2:=fun ns=>by
  obtain ⟨h1,h2,_⟩:=bP (hZ ns);refine ⟨h1,h2,?_⟩;have:=kQ (k:=1) (ds:=ns.map .int) (fun d hd=>by
   obtain ⟨i,_,rfl⟩:=List.mem_map.mp hd;unfold D.py PyData.depth;omega)
  show (PyData.list (pys (ns.map .int))).depth<=2;unfold PyData.depth;omega
 have:=ok_tup (k:=2) (ds:=[ao w.1,ao w.2]) (fun d hd=>by
  simp only [List.mem_cons,List.not_mem_nil,or_false] at hd;rcases hd with rfl | rfl
  ·exact hi w.1
  ·exact hi w.2)
 exact ⟨this.1,this.2.1,Nat.le_trans this.2.2 (by decide)⟩
theorem p5 (w:Wlk Int Int) (ws:List (Wlk Int Int)):oEq (.lst ((w::ws).map eWk)) (.lst [])=some (.sh (.bl false)):=by
 unfold oEq;rw [if_pos ⟨okD_ears _,by rfl⟩];have:eqP (.lst ((w::ws).map eWk)) (.lst [])=false:=by
  rw [List.map_cons];simp [eqP,D.py,pys,PyData.eqv,PyData.eqvAll]
 rw [this]
theorem j6 {ns:List Int}:(gv ns).Nodup/\∀ x,x∈gv ns↔x∈ns:=by
 obtain ⟨h1,_,_,h2⟩:=jX ns [] List.nodup_nil;exact ⟨h1,fun x=>by rw [gv,h2];simp⟩
theorem qZ {ns ms:List Int} (nd:ms.Nodup) (h:∀ x,x∈ns↔x∈ms):(gv ns).length=ms.length:=
 ((List.perm_ext_iff_of_nodup j6.1 nd).2 fun x=>(j6.2 x).trans (h x)).length_eq
theorem kz {f:FE} {δ:DSt} {r:R} {ns ms:List Int} (h:f δ=some r) (hv:r.view=ao ns) (hl:ns.length<=1000) (nd:ms.Nodup) (hm:∀ x,x∈ns↔x∈ms):cT f δ=some (.sh (.int ms.length)):=by
 unfold cT;rw [h];simp only [ud,hv,ao];rw [d0];simp [hl,qZ nd hm]
theorem iX {n:Int} {T:List Tie} (W:aN n T) {w:Wlk Int Int} (h:gJ n T w) (k1:w.1.tail.Nodup) (k2:w.1.head?=w.1.getLast?) (k3:2<=w.2.length) (nd:w.2.Nodup):cS c [cK n T,eWk w]=some (.bl true):=by
 have hl:=h.len;have hsm:=h.sm;have h1:=gk c W h nd;obtain ⟨a,ps,e⟩ : ∃ a ps,w.1=a::ps:=by
  cases e:w.1 with
  | nil=>rw [e] at hl;simp at hl
  | cons p ps=>exact ⟨p,ps,rfl⟩
 have ha:w.1.head?=some a:=by rw [e];rfl
 have hps:ps.length=w.2.length:=by rw [e] at hl;simpa using hl
 have hmem:a∈ps:=by
  rw [k2,e] at ha;cases hps':ps with
  | nil=>rw [hps'] at hps;simp at hps;omega
  | cons b bs=>
   rw [hps',List.getLast?_cons_cons] at ha;exact List.mem_of_getLast? ha
 have ls:=kz (f:=ad oIx (aa 1) (ac (.int 0))) (δ:=[sT n T,sK w]) (ns:=w.1) (ms:=w.1.tail) (dN (f:=aa 1) rfl) rfl (by omega) k1 (fun x=>by
  rw [e];simp only [List.tail_cons,List.mem_cons];exact ⟨fun h=>h.elim (fun q=>q▸hmem) id,.inr⟩)
 have htl:w.1.tail.length=w.2.length:=by rw [e];exact hps
 rw [htl] at ls;refine be (r:=.sh (.bl true)) rfl (skp ?_ (gX (bs ls (iz (iW (f:=aa 1) rfl) rfl) (by simp)) rfl)) rfl;exact dH (dO (aI (cs2 rfl rfl h1))) (dH (aI (b:=false) (bs (iz (iW (f:=aa 1) rfl) rfl) rfl (by simp;omega))) (aI (b:=false) (bs (j4 (dN (f:=aa 1) rfl) ha) (lN (dN (f:=aa 1) rfl) (k2▸ha)) (by simp))))
noncomputable def bodyLE:FS:=(ar (sif ((cx (aP (ai (av 2 (eX c) (ab (aa 0) (ab (aa 5) af))))) ((bg (ai (aa 2)) (aP (ai (av 2 (cS c) (ab (aa 0) (ab (aa 5) af))))))))) (aG (ac (.bl false))) az) (ar (la (aa 5) (iM 2 (bO (aq 6) (bO (aq 7) i9)))) (ar (sif ((bg (ai (ad oEq (aa 7) (bX af))) (bg (ai (ad oNotIn (ad oIx (aa 6) (ac (.int 0))) (aa 3))) (ai (ad oNotIn (ad oIx (aa 6) (dun dS (ac (.int 1)))) (aa 3)))))) (aG (ac (.bl false))) az) (ar (sif ((bg (ai (al k7 (ab (bI (aH (bV (aa 6) (bJ (ac (.int 1))) (bJ (dun dS (ac (.int 1)))))) (aq 0) dR (ad oIn (aa 0) (aa 1)) 1 [3]) af))) (ai (al k7 (ab (bI (aH (aa 7)) (aq 0) dR (ad oIn (aa 0) (aa 1)) 1 [4]) af))))) (aG (ac (.bl false))) az) (la (b9 (ab (ad bh (aa 3) (aa 6)) (ab (ad bh (aa 4) (aa 7)) af))) (iM 2 (bO (aq 3) (bO (aq 4) i9))))))))
theorem re {n:Int} {T:List Tie} (W:aN n T) {w:Wlk Int Int} (h:gJ n T w) (nd:w.2.Nodup):eX c [cK n T,eWk w]=some (.bl (decide w.1.Nodup)):=by
 have h1:=gk c W h nd;have hl:w.1.length<=1000:=by have:=h.len;have:=h.sm;omega
 have ls:=kz (f:=ad oIx (aa 1) (ac (.int 0))) (δ:=[sT n T,sK w]) (ns:=w.1) (ms:=gv w.1) (dN (f:=aa 1) rfl) rfl hl j6.1 (fun x=>(j6.2 x).symm);refine be (r:=.sh (.bl _)) rfl (gX (pQ (cs2 rfl rfl h1) (bs ls (iz (dN (f:=aa 1) rfl) rfl) ?_)) rfl) rfl;simp only [bj,oEq_ii];congr 3;refine decide_eq_decide.mpr ?_;rw [<-mW];omega
theorem le_body {e1 x6 x7:Option E} {n:Int} {T:List Tie} (W:aN n T) {met used ahead gone:List Int} {w:Wlk Int Int} (h:Ear (ap T) met used w) (hm:∀ p,p∈ahead↔p∈met) (hu:∀ p,p∈gone↔p∈used) (l1:ahead.length<=900) (l2:gone.length<=900) :
  bodyLE c [sT n T,e1,some (.sh (.bl false)),sI ahead,sI gone,sK w,x6,x7]=some (.nx [sT n T,e1,some (.sh (.bl false)),some (.sh (ao (ahead++w.1))),some (.sh (ao (gone++w.2))),sK w,sI w.1,sI w.2]):=by
 obtain ⟨hw,hle⟩:=gm W h;have hl:=h.len;have hp:=h.pos;have hT:=W.2.2.1;have b2:(2:Nat)<=big:=by decide
 have b0:(0:Nat)<=big:=by decide
 have a1:=re c W hw h.nd;obtain ⟨a,ha,ha2⟩:=h.hd;obtain ⟨b,hb,hb2⟩:=h.lt;refine skp ?_ (seq1 (δ1:=[sT n T,e1,some (.sh (.bl false)),sI ahead,sI gone,sK w,sI w.1,sI w.2]) rfl ?_)
 ·rw [lF,dO (aI (cs2 rfl rfl a1))];by_cases nd:w.1.Nodup
  ·rw [decide_eq_true nd];rfl
  ·rw [decide_eq_false nd];rcases h.kind with k | ⟨k1,k2,k3⟩
   ·exact absurd k nd
   ·simp only [Bool.not_false,ud,if_true];exact dH (aI (b:=false) rfl) (dO (aI (cs2 rfl rfl (iX c W hw k1 k2 k3 h.nd))))
 generalize hδ:[some (E.sh (cK n T)),e1,some (.sh (.bl false)),sI ahead,sI gone,sK w,sI w.1,sI w.2]=δ;have q3:aa 3 δ=some (.sh (ao ahead)):=by rw [<-hδ];rfl
 have q4:aa 4 δ=some (.sh (ao gone)):=by rw [<-hδ];rfl
 have q6:aa 6 δ=some (.sh (ao w.1)):=by rw [<-hδ];rfl
 have q7:aa 7 δ=some (.sh (ao w.2)):=by rw [<-hδ];rfl
 have an1:=any_in (fi:=aH (bV (aa 6) (bJ (ac (.int 1))) (bJ (dun dS (ac (.int 1)))))) (fe:=ad oIn (aa 0) (aa 1)) (ix:=[3]) (δ:=δ) (ps:=w.1.tail.dropLast) (ns:=ahead) (by rw [cq,qX q6];rfl) (by simp;omega) (fun p=>by rw [<-hδ];exact bs rfl rfl oIn_fr);have an2:=any_in (fi:=aH (aa 7)) (fe:=ad oIn (aa 0) (aa 1)) (ix:=[4]) (δ:=δ) (ps:=w.2) (ns:=gone) (by rw [cq,q7];rfl) (by omega) (fun p=>by rw [<-hδ];exact bs rfl rfl oIn_fr);have hf1:(w.1.tail.dropLast.any fun p=>decide (p∈ahead))=false:=by
  rw [List.any_eq_false];intro p hp1;have:=h.inn p hp1;simp only [decide_eq_true_eq];rw [hm];exact this
 have hf2:(w.2.any fun p=>decide (p∈gone))=false:=by
  rw [List.any_eq_false];intro p hp1;have:=h.fresh p hp1;simp only [decide_eq_true_eq];rw [hu];exact this
 rw [hf1] at an1;rw [hf2] at an2;have nem:¬(w.2=[]):=by intro e;rw [e] at hp;simp at hp
 have dn:bX af δ=some (.fr []):=by simp [b0]
 refine skp ?_ (skp ?_ ?_)
 ·exact dH (aI (b:=false) (bA (a:=.sh (ao w.2)) (b:=.fr []) q7 dn ((jD w.2 []).trans (by simp [nem])))) (dH (aI (b:=false) (bs (j4 q6 ha) q3 ((Enc.int.oNotIn (by decide) a ahead).trans (by simp [(hm a).2 ha2])))) (aI (b:=false) (bs (lN q6 hb) q3 ((Enc.int.oNotIn (by decide) b ahead).trans (by simp [(hm b).2 hb2])))))
 ·exact dH (aI an1) (aI an2)
 ·have s1:=bA q3 q6 (jV (ahead.map .int) (w.1.map .int) (by simp only [uk];omega));have s2:=bA q4 q7 (jV (gone.map .int) (w.2.map .int) (by simp only [uk];omega));have tp:b9 (ab (ad bh (aa 3) (aa 6)) (ab (ad bh (aa 4) (aa 7)) af)) δ=some (.sh (.tup [ao (ahead++w.1),ao (gone++w.2)])):=by
   simp only [dtup_e,aE,s1,s2];simp [b2]
  unfold la;rw [tp,<-hδ];rfl
theorem meth1 {C:Addr} {name:Str} {m:List D->Option D} {fo f1:FE} {δ:DSt} {fs:List (Str×D)} {r1:R} {d:D} (h:fo δ=some (.sh (.obj C fs))) (hl:fs.lookup name=none) (h1:f1 δ=some r1)
  (hm:m [.obj C fs,r1.view]=some d) (hb:r1.isBw=false\/d.flat=true):bH C name 2 m fo (ab f1 af) δ=some (.sh d):=by
 simp only [dmeth_e,h,ud,bj,hl,aE,fK,h1,and_self,if_true,lG,List.map_cons,List.map_nil,hm];rw [if_pos];exact ⟨rfl,hb.imp (fun h=>by simp [h]) id⟩
theorem meth_no {C C':Addr} {name:Str} {k:Nat} {m:List D->Option D} {fo:FE} {fa:DSt->Option (List R)} {δ:DSt} {fs:List (Str×D)} (h:fo δ=some (.sh (.obj C' fs))) (hn:C'≠C):bH C name k m fo fa δ=none:=by
 simp only [dmeth_e,h,ud,bj];simp [hn]
theorem rW {f1 f2 f3:FE} {δ:DSt} {a b d:Int} (h1:f1 δ=some (.sh (.int a))) (h2:f2 δ=some (.sh (.int b))) (h3:f3 δ=some (.sh (.int d))) (h4:a<b) (h5:b<d):ai (cw oLt oLt f1 f2 f3) δ=some true:=by
 rw [qV h1 h2 h3];simp [h4,h5]
theorem le_loop {e1:Option E} {n:Int} {T:List Tie} (W:aN n T):∀ (ws:List (Wlk Int Int)) (met used ahead gone:List Int) (x5 x6 x7:Option E),aA (ap T) met used ws->(∀ p,p∈ahead↔p∈met)->(∀ p,p∈gone↔p∈used)->ahead.length+20*ws.length<=900->gone.length+20*ws.length<=900->
  ∃ y5 y6 y7,ba (aq 5) (bodyLE c) (ws.map eWk) [sT n T,e1,some (.sh (.bl false)),sI ahead,sI gone,x5,x6,x7]=some (.nx [sT n T,e1,some (.sh (.bl false)),some (.sh (ao (ahead++ws.flatMap (·.1)))),some (.sh (ao (gone++ws.flatMap (·.2)))),y5,y6,y7])
 | [],met,used,ahead,gone,x5,x6,x7,_,_,_,_,_=>⟨x5,x6,x7,by simp [ba]⟩
 | w::ws,met,used,ahead,gone,x5,x6,x7,h,hm,hu,l1,l2=>by
  obtain ⟨h1,h2⟩:=h;obtain ⟨hw,hle⟩:=gm W h1;have hT:=W.2.2.1;have hwl:=h1.len;simp only [List.length_cons] at l1 l2;obtain ⟨y5,y6,y7,ih⟩:=le_loop W ws (met++w.1) (used++w.2) (ahead++w.1) (gone++w.2) (some (.sh (eWk w))) (some (.sh (ao w.1))) (some (.sh (ao w.2))) h2 (fun p=>by rw [List.mem_append,List.mem_append,hm]) (fun p=>by rw [List.mem_append,List.mem_append,hu]) (by simp only [List.length_append];omega) (by simp only [List.length_append];omega);refine ⟨y5,y6,y7,?_⟩;rw [List.map_cons];unfold ba;have hg:aq 5 (eWk w) [sT n T,e1,some (.sh (.bl false)),sI ahead,sI gone,x5,x6,x7]=some [sT n T,e1,some (.sh (.bl false)),sI ahead,sI gone,sK w,x6,x7]:=rfl;rw [hg];simp only [ud];rw [le_body c W h1 hm hu (by omega) (by omega)];simp only [ud,cV];rw [ih];simp
theorem asg1 {f:FE} {g:GD} {δ δ1:DSt} {d:D} (h:f δ=some (.sh d)) (h2:g d δ=some δ1):la f g δ=some (.nx δ1):=by unfold la;rw [h];simp only [ud];rw [h2];rfl
section
variable {n:Int} {T:List Tie} (W:aN n T) {e:Wlk Int Int} {es:List (Wlk Int Int)} (O:gU n T e es)
include W O
theorem gU.few14:es.length+1<=14:=by
 obtain ⟨_,h1,_⟩:=O.names W;have hp:=aA.pos1 O.ok.fr;have key:∀ ws:List (Wlk Int Int),(∀ w∈ws,1<=w.2.length)->ws.length<=(ws.flatMap (·.2)).length:=by
  intro ws
  induction ws with
  | nil=>intro _;simp
  | cons w ws ih=>
   intro h;have:=ih (fun x hx=>h x (by simp [hx]));have:=h w (by simp);simp only [List.flatMap_cons,List.length_append,List.length_cons];omega
 have:=key (e::es) hp;simp only [List.length_cons] at this;omega
theorem nR:gF c [cK n T,.lst ((e::es).map eWk),.bl false]=some (.bl true):=by
 obtain ⟨hf1,hf2⟩:=O.ok.fr;obtain ⟨hw,hle⟩:=gm W hf1;obtain ⟨k1,k2,k3⟩:=Ear.ring hf1;have hT:=W.2.2.1;have hn1:=W.1;have hn2:=W.2.1;have hlen:=hf1.len;have few:=O.few14 W;have b2:(2:Nat)<=big:=by decide
 have b0:(0:Nat)<=big:=by decide
 have a1:=iX c W hw k1 k2 k3 hf1.nd;obtain ⟨nm1,nm2,nm3⟩:=O.names W;have z0:=O.zero W;obtain ⟨y5,y6,y7,lp⟩:=le_loop c (e1:=some (.sh (.lst ((e::es).map eWk)))) W es ([0]++e.1) ([]++e.2) e.1 e.2 none none none hf2 (fun p=>by
  rw [List.mem_append,List.mem_singleton];constructor
  ·exact .inr
  ·rintro (rfl | q)
   ·exact z0
   ·exact q) (fun p=>by simp) (by omega) (by omega)
 have lm:(e.1++es.flatMap (·.1)).length<=1000:=by
  have key:∀ ws:List (Wlk Int Int),(∀ w∈ws,w.1.length<=15)->(ws.flatMap (·.1)).length<=15*ws.length:=by
   intro ws
   induction ws with
   | nil=>intro _;simp
   | cons w ws ih=>
    intro h;have:=ih (fun x hx=>h x (by simp [hx]));have:=h w (by simp);simp only [List.flatMap_cons,List.length_append,List.length_cons];omega
  have h1:=key es (fun w hw=>by
   have q:=aA.ptm W hf2 w hw;have:=q.2.2.1.len;omega)
  rw [List.length_append];omega
 have ls:=kz (f:=aa 3) (δ:=[sT n T,some (.sh (.lst ((e::es).map eWk))),some (.sh (.bl false)),some (.sh (ao (e.1++es.flatMap (·.1)))),some (.sh (ao (e.2++es.flatMap (·.2)))),y5,y6,y7]) (ns:=e.1++es.flatMap (·.1)) (ms:=pts n) (r:=.sh (ao (e.1++es.flatMap (·.1)))) rfl rfl lm (iK n) (fun x=>(O.pts_iff W x).trans eE.symm);rw [eD] at ls;have hnn:((n.toNat:Nat):Int)=n:=by omega
 have hgl:((e.2++es.flatMap (·.2)).length:Int)=(T.length:Int):=by
  rw [<-nm3];simp
 refine be (r:=.sh (.bl true)) rfl ?_ rfl;refine (skp ?_ (seq1 (δ1:=[sT n T,some (.sh (.lst ((e::es).map eWk))),some (.sh (.bl false)),sI e.1,sI e.2,none,none,none]) ?_ (seq1 (δ1:=[sT n T,some (.sh (.lst ((e::es).map eWk))),some (.sh (.bl false)),some (.sh (ao (e.1++es.flatMap (·.1)))),some (.sh (ao (e.2++es.flatMap (·.2)))),y5,y6,y7]) ?_ (gX (pQ ?_ ?_) rfl))))
 ·have dn:bX af [sT n T,some (.sh (.lst ((e::es).map eWk))),some (.sh (.bl false)),none,none,none,none,none]=some (.fr []):=by simp [b0]
  exact dH (dO (aI (dP (ans:=cF) (f:=aa 1) (d:=.lst ((e::es).map eWk)) (b:=true) rfl rfl))) (dH (aI (b:=false) (bA (a:=.sh (.lst ((e::es).map eWk))) (b:=.fr []) rfl dn (p5 e es))) (dO (aI (cs2 rfl (ixW0 (f:=aa 1) rfl) a1))))
 ·have s1:=list1 (f:=ad oIx (ad oIx (aa 1) (ac (.int 0))) (ac (.int 0))) (δ:=[sT n T,some (.sh (.lst ((e::es).map eWk))),some (.sh (.bl false)),none,none,none,none,none]) (dN (ixW0 (f:=aa 1) (w:=e) (ws:=es) rfl));have s2:=list1 (f:=ad oIx (ad oIx (aa 1) (ac (.int 0))) (ac (.int 1))) (δ:=[sT n T,some (.sh (.lst ((e::es).map eWk))),some (.sh (.bl false)),none,none,none,none,none]) (iW (ixW0 (f:=aa 1) (w:=e) (ws:=es) rfl));have tp:b9 (ab (al dI (ab (ad oIx (ad oIx (aa 1) (ac (.int 0))) (ac (.int 0))) af)) (ab (al dI (ab (ad oIx (ad oIx (aa 1) (ac (.int 0))) (ac (.int 1))) af)) af)) [sT n T,some (.sh (.lst ((e::es).map eWk))),some (.sh (.bl false)),none,none,none,none,none]=some (.sh (.tup [ao e.1,ao e.2])):=by
   rw [dtup_e,aE,s1,ud,aE,s2];simp [b2]
  exact asg1 tp rfl
 ·have hi:aH (bV (aa 1) (bJ (ac (.int 1))) eG) [sT n T,some (.sh (.lst ((e::es).map eWk))),some (.sh (.bl false)),sI e.1,sI e.2,none,none,none]=some (es.map eWk):=by
   rw [cq,jo (f:=aa 1) (ds:=(e::es).map eWk) rfl];rfl
  unfold bN;rw [hi];exact lp
 ·exact bA (a:=.sh (.int n.toNat)) (b:=.sh (.int n)) ls (jl (f:=aa 0) rfl) (by simp [hnn])
 ·exact bA (a:=.sh (.int (e.2++es.flatMap (·.2)).length)) (b:=.sh (.int T.length)) (iz (r:=.sh (ao (e.2++es.flatMap (·.2)))) rfl rfl) (lenT (gK (f:=aa 0) rfl)) (by rw [bj,bj,hgl];simp)
end
theorem rg {n:Int} {T:List Tie} {w:Wlk Int Int} {ws:List (Wlk Int Int)} (h:w.1.length≠w.2.length+1) (l1:w.1.length<=1000) (l2:w.2.length<=1000):bb c [aS c (w::ws),aX c n T]=some (.bl false):=by
 have h1:=jp c (n:=n) (T:=T) l1 l2;have:j5 n T w=false:=by simp [j5,gp,h]
 rw [this] at h1;exact be (r:=.sh (.bl false)) rfl (stp (dH (x:=some true) (aI (b:=false) (bs (lenW (fldE c (f:=aa 0) rfl)) rfl (by simp;omega))) (dO (aI (cs2 rfl (ixW0 (fldE c (f:=aa 0) rfl)) h1))))) rfl
noncomputable def gY (d:Int):Int:=if d=0 then 1 else 0
noncomputable def fy (T:List Tie) (d:Int):List Int:=srt (rch T d (gY d))
theorem begO_ne (d:Int):gY d≠d:=by unfold gY;split <;> omega
theorem begO_pt {n:Int} (h3:3<=n) (d:Int):0<=gY d/\gY d<n:=by unfold gY;split <;> omega
theorem othO_len (T:List Tie) (d:Int):(fy T d).length=(rch T d (gY d)).length:=(gl _).length_eq
theorem kA {n:Int} {T:List Tie} (W:aN n T) (h3:3<=n) (d:Int):cg c [aX c n T,.int d]=some (ao (fy T d)):=by
 have hT:=W.2.2.1;have hl:=br T;have hs:=iq c n T (by omega);have hb:=ox c (ap T) d (by omega);have hr:=rch_eq c W d (gY d);have hle:=rch_len W (d:=d) (begO_pt h3 d);refine be (r:=.fr ((fy T d).map .int)) rfl (seq1 (δ1:=[sW c n T,si d,some (.sh (.int (gY d)))]) ?_ (gX (sorted1 (cs2 rfl (cs2 (cs1 rfl hs) rfl hb) hr) (by omega)) rfl)) rfl;refine dh (r:=.sh (.int (gY d))) ?_ rfl rfl;unfold dif;have t:ai (ad oEq (aa 1) (ac (.int 0))) [sW c n T,si d,none]=some (decide (d=0)):=by simp
 show (ai (ad oEq (aa 1) (ac (.int 0))) [sW c n T,si d,none]).bind _=_;rw [t];unfold gY;by_cases h:d=0 <;> simp [h]
noncomputable def iA (n:Int) (T:List Tie):Option Int:=(pts n).find? fun d=>decide (((fy T d).length:Int)<n-1)
noncomputable def kZ:FS:=(ar (sset 2 (av 2 (cg c) (ab (aa 0) (ab (aa 1) af)))) (sif (ai (ad oLt (al aV (ab (aa 2) af)) (ad oSub (bZ (isC c.Web) "points" (aa 0)) (ac (.int 1))))) (gN (fu c.Joint 2 (cJ c) (ab (aa 1) (ab (aa 2) af)))) az))
theorem kB {n:Int} {T:List Tie} (W:aN n T) (h3:3<=n):∀ (ds:List Int) (x1 x2:Option E),
  (∃ d,ds.find? (fun d=>decide (((fy T d).length:Int)<n-1))=some d/\ba (aq 1) (kZ c) (ds.map .int) [sW c n T,x1,x2]=some (.rn (nz c d (fy T d))))\/
  (ds.find? (fun d=>decide (((fy T d).length:Int)<n-1))=none/\∃ y1 y2,ba (aq 1) (kZ c) (ds.map .int) [sW c n T,x1,x2]=some (.nx [sW c n T,y1,y2]))
 | [],x1,x2=>.inr ⟨rfl,x1,x2,rfl⟩
 | d::ds,x1,x2=>by
  have d1:=kA c W h3 d;have hs:sset 2 (av 2 (cg c) (ab (aa 0) (ab (aa 1) af))) [sW c n T,si d,x2]=some (.nx [sW c n T,si d,some (.sh (ao (fy T d)))]):=
   dh (cs2 rfl rfl d1) rfl rfl
  have ht:ai (ad oLt (al aV (ab (aa 2) af)) (ad oSub (bZ (isC c.Web) "points" (aa 0)) (ac (.int 1)))) [sW c n T,si d,some (.sh (ao (fy T d)))]=some (decide (((fy T d).length:Int)<n-1)):=
   aI (bA (a:=.sh (.int (fy T d).length)) (b:=.sh (.int (n-1))) (iz (r:=.sh (ao (fy T d))) rfl rfl) (bA (a:=.sh (.int n)) (b:=.sh (.int 1)) (ni c (f:=aa 0) rfl) rfl (by simp)) (by simp))
  have hg:aq 1 (.int d) [sW c n T,x1,x2]=some [sW c n T,si d,x2]:=rfl;by_cases hp:((fy T d).length:Int)<n-1
  ·refine .inl ⟨d,by rw [List.find?_cons_of_pos];simpa using hp,?_⟩;rw [List.map_cons];unfold ba;rw [hg];have hi:=nP c d (fy T d);have hb:kZ c [sW c n T,si d,x2]=some (.rn (nz c d (fy T d))):=by
    refine seq1 hs ?_;rw [cp,ht,ud,if_pos (by simpa using hp)];refine oy ?_;simp only [jH,aE,fK,dW,uj,ug,ud,List.map_cons,List.map_nil,bj,hi];simp [nz]
   simp only [ud];rw [hb];rfl
  ·have hb:kZ c [sW c n T,si d,x2]=some (.nx [sW c n T,si d,some (.sh (ao (fy T d)))]):=by
    refine seq1 hs ?_;rw [cp,ht,ud,if_neg (by simpa using hp)];rfl
   have e:(d::ds).find? (fun d=>decide (((fy T d).length:Int)<n-1))=ds.find? (fun d=>decide (((fy T d).length:Int)<n-1)):=by
    rw [List.find?_cons_of_neg];simpa using hp
   rw [e];have e2:ba (aq 1) (kZ c) ((d::ds).map .int) [sW c n T,x1,x2]=ba (aq 1) (kZ c) (ds.map .int) [sW c n T,si d,some (.sh (ao (fy T d)))]:=by
    rw [List.map_cons];show (aq 1 (.int d) _).bind _=_;rw [hg];simp only [ud];rw [hb];rfl
   rw [e2];exact kB W h3 ds _ _
section
variable (hc:CNe c) {n:Int} {T:List Tie} (W:aN n T) (h3:3<=n)
include hc W h3
theorem rX {d:Int} (hp:iA n T=some d):cc c [aX c n T]=some (nz c d (fy T d)):=by
 have d1:=cW c hc (T:=T) h3;have d2:=eC c n T (by omega) (by have:=W.2.1;omega);refine jm rfl (seq1 (δ1:=[sW c n T,none,none]) ?_ ?_)
 ·unfold gP;rw [cs2 rfl rfl d1];rfl
 ·rcases kB c W h3 (pts n) none none with ⟨d',e1,e2⟩ | ⟨e1,_⟩
  ·unfold iA at hp;rw [e1] at hp;cases hp;have hf:bN (aH (av 1 (bD c) (ab (aa 0) af))) (aq 1) (kZ c) [sW c n T,none,none]=some (.rn (nz c d (fy T d))):=by
    unfold bN;rw [cq,cs1 rfl d2];exact e2
   rw [dX];erw [hf];rfl
  ·unfold iA at hp;rw [e1] at hp;cases hp
theorem open_ears (hp:iA n T=none) {ws:List (Wlk Int Int)} (hw:cQ 100 100 (ap T) [0] []=some ws) (hl:ws.length<=1000):cc c [aX c n T]=some (aS c ws):=by
 have d1:=cW c hc (T:=T) h3;have d2:=eC c n T (by omega) (by have:=W.2.1;omega);have d3:=j0 c ws hl;have d4:=kY c W hw;refine jm rfl (seq1 (δ1:=[sW c n T,none,none]) ?_ ?_)
 ·unfold gP;rw [cs2 rfl rfl d1];rfl
 ·rcases kB c W h3 (pts n) none none with ⟨d',e1,e2⟩ | ⟨e1,y1,y2,e2⟩
  ·unfold iA at hp;rw [e1] at hp;cases hp
  ·have hf:bN (aH (av 1 (bD c) (ab (aa 0) af))) (aq 1) (kZ c) [sW c n T,none,none]=some (.nx [sW c n T,y1,y2]):=by
    unfold bN;rw [cq,cs1 rfl d2];exact e2
   refine seq1 hf (oy ?_);have d5:=call1 (f1:=aa 0) (δ:=[sW c n T,y1,y2]) (r1:=.sh (aX c n T)) rfl d4 (.inl rfl);rw [jH,aE,d5];simp [d3,aS]
end
section
variable {n:Int} {T:List Tie} (W:aN n T) (h3:3<=n) (hn:iA n T=none)
include W h3 hn
theorem k5 {v:Int} (hv:0<=v/\v<n) {Q:Int->Prop} (hQ:∀ t∈ap T,t.1≠v->t.2.1≠v->Q t.1->Q t.2.1) {x y:Int} (hx:0<=x/\x<n) (hy:0<=y/\y<n) (nx:x≠v) (ny:y≠v) (q:Q x):Q y:=by
 have k:=rch_ok W v (gY v);have hl:¬((fy T v).length:Int)<n-1:=by
  unfold iA at hn;have:=List.find?_eq_none.1 hn v (eE.2 hv);simpa using this
 rw [othO_len] at hl;have nd:v∉rch T v (gY v):=fun h=>by
  have:=k.min (fun p=>p≠v) (begO_ne v) (fun s hs _=>by
   obtain ⟨t,ht,rfl⟩:=List.mem_map.1 hs;exact fun e=>(cz.1 ht).2.2 e.symm) v h
  exact this rfl
 have all:∀ p,0<=p/\p<n->p≠v->p∈rch T v (gY v):=by
  intro p hp np;apply Classical.byContradiction;intro hno;have hnd:(v::p::rch T v (gY v)).Nodup:=by
   rw [List.nodup_cons,List.nodup_cons];refine ⟨?_,hno,k.nd⟩;intro hm;rcases List.mem_cons.1 hm with e | e
   ·exact np e.symm
   ·exact nd e
  have:=List.Nodup.length_le_of_subset hnd (l₂:=pts n) (fun z hz=>by
   rw [eE];rcases List.mem_cons.1 hz with rfl | hz
   ·exact hv
   ·rcases List.mem_cons.1 hz with rfl | hz
    ·exact hp
    ·exact rch_pt W (begO_pt h3 v) z hz)
  rw [eD] at this;simp at this;omega
 have iff:∀ p∈rch T v (gY v),(Q p↔Q (gY v)):=fun p hp=>k.min (fun p=>Q p↔Q (gY v)) Iff.rfl (fun s hs h=>by
  obtain ⟨t,ht,rfl⟩:=List.mem_map.1 hs;obtain ⟨h1,h2,h3'⟩:=cz.1 ht;have f1:=hQ t h1 (Ne.symm h2) (Ne.symm h3');have f2:=hQ (turned t) (eL T t h1) (Ne.symm h3') (Ne.symm h2);exact ⟨fun q=>h.1 (f2 q),fun q=>f1 (h.2 q)⟩) p hp
 exact (iff y (all y hy ny)).2 ((iff x (all x hx nx)).1 q)
theorem third (u v:Int):∃ z,(0<=z/\z<n)/\z≠u/\z≠v:=by
 by_cases h0:(0:Int)≠u/\(0:Int)≠v
 ·exact ⟨0,by omega,h0⟩
 ·by_cases h1:(1:Int)≠u/\(1:Int)≠v
  ·exact ⟨1,by omega,h1⟩
  ·exact ⟨2,by omega,by omega⟩
theorem no_joint:NoJoint (ap T) (fun p=>0<=p/\p<n):=by
 intro v Q hQ x y hx hy nx ny q;by_cases hv:0<=v/\v<n
 ·exact k5 W h3 hn hv hQ hx hy nx ny q
 ·obtain ⟨z,hz,z1,z2⟩:=third W h3 hn x y;refine k5 W h3 hn hz (Q:=Q) (fun t ht _ _=>?_) hx hy (Ne.symm z1) (Ne.symm z2) q;have hp:=bz W t ht;exact hQ t ht (fun e=>hv (e▸⟨hp.1,hp.2.1⟩)) (fun e=>hv (e▸⟨hp.2.2.1,hp.2.2.2⟩))
theorem rY:iS (ap T) 0 (fun p=>0<=p/\p<n):=by
 have J:=no_joint W h3 hn;refine ⟨eL T,eY T,jk W,fun s hs=>⟨(bz W s hs).1,(bz W s hs).2.1⟩,fun Q q0 q1 p hp=>?_,?_⟩
 ·exact J (-1) Q (fun t ht _ _ q=>q1 t ht q) 0 p ⟨by omega,by omega⟩ hp (by omega) (by omega) q0
 ·exact nobar_of (eY T) (eL T) (jk W) (fun s hs=>⟨(bz W s hs).1,(bz W s hs).2.1⟩) J (third W h3 hn)
theorem p6:∃ e es,gU n T e es:=by
 have hT:=W.2.2.1;have hl:=br T;have Wh:=rY W h3 hn;have vj:ap T≠[]:=by
  intro e;have:=Wh.conn (fun p=>p=0) rfl (by rw [e];simp) 1 (by omega);omega
 obtain ⟨e,es,g1,g2,g3⟩:=qA Wh (n:=100) (f:=100) (by omega) (by omega) vj;obtain ⟨a1,a2⟩:=qz Wh g2 g3;exact ⟨e,es,⟨g1,g2,a1,a2⟩⟩
end
theorem ears_cons {n:Int} {T:List Tie} (W:aN n T) (h:ci n T=[]) (h2:2<=n):∃ e es,gU n T e es:=by
 obtain ⟨ws,A⟩:=ears_of W h h2;cases ws with
 | nil=>
  have vj:=oE W h h2;cases hs:ap T with
  | nil=>exact absurd hs vj
  | cons s ss=>
   have:=A.all s (by rw [hs];simp);simp at this
 | cons e es=>exact ⟨e,es,⟨A⟩⟩
theorem shows_nil {n:Int} {T:List Tie}:bb c [aS c [],aX c n T]=some (.bl false):=by
 refine be (δ:=[some (.sh (aS c [])),sW c n T,none,none,none]) (r:=.sh (.bl false)) rfl (stp ?_) rfl;rw [mi,aI (b:=true) (bs (fb:=ac (.int 1)) (o:=oLt) (lenW (fldE c (f:=aa 0) (δ:=[some (.sh (aS c [])),sW c n T,none,none,none]) rfl)) rfl (by simp))];rfl
theorem rh {n:Int} {T:List Tie} (W:aN n T) {ps:List Int} (B:oB n T ps):oB n T.tail ps:=
 ⟨B.set,B.lt,B.pt,B.pos,B.few,Nat.le_trans (List.Sublist.length_le ((List.tail_sublist T).filter _)) B.one⟩
theorem bar_off {n:Int} {T:List Tie} (W:aN n T) {ps:List Int} (B:oB n T ps):bT c [cD c (ps++[0]),aX c n T]=some (.bl false):=by
 rw [j3 c n T _ (by have:=W.1;omega) (by have:=W.2.1;omega) (by have:=W.2.2.1;omega)];have:isSet n (ps++[0])=false:=by
  unfold isSet;refine decide_eq_false fun q=>?_;have hs:(ps++[0]).Pairwise (·<·):=by
   rw [q];exact (pts_lt n).sublist List.filter_sublist
  have hp:=B.pos;cases hps:ps with
  | nil=>rw [hps] at hp;simp at hp
  | cons p qs=>
   rw [hps] at hs;have h0:=(B.pt p (by rw [hps];simp)).1;have:=(List.pairwise_cons.1 hs).1 0 (by simp);omega
 rw [this];rfl
theorem ansB (hc:CNe c) (ps:List Int):e7 c (cD c ps)=some true/\eW c (cD c ps)=some false/\ib c (cD c ps)=some true/\gc c (cD c ps)=some false/\e8 c (cD c ps)=some false:=by
 obtain ⟨h1,h2,h3,_⟩:=hc;simp [e7,gc,ib,eW,e8,cD,h1,h2,h3]
theorem ansE (hc:CNe c) (ws:List (Wlk Int Int)):e7 c (aS c ws)=some true/\eW c (aS c ws)=some true/\ib c (aS c ws)=some false/\gc c (aS c ws)=some false/\e8 c (aS c ws)=some false:=by
 obtain ⟨h1,h2,h3,h4,h5,h6,_⟩:=hc;simp [e7,gc,ib,eW,e8,aS,Ne.symm h1,h5,h6]
theorem lke2 {A:Type} {a:A}:List.lookup ("shows" : Str) [(("ears" : Str),a)]=none:=rfl
noncomputable def shw (i:Nat) (g:FE):FE:=(dalt (bH c.Ears "shows" 2 (bb c) (aa i) (ab g af)) (bH c.Bar "shows" 2 (bT c) (aa i) (ab g af)))
theorem shw_E {i:Nat} {g:FE} {δ:DSt} {n:Int} {T:List Tie} {ws:List (Wlk Int Int)} {b:Bool} (h1:aa i δ=some (.sh (aS c ws))) (h2:g δ=some (.sh (aX c n T))) (h:bb c [aS c ws,aX c n T]=some (.bl b)):shw c i g δ=some (.sh (.bl b)):=by
 unfold shw dalt;rw [meth1 (fs:=[("ears",.lst (ws.map eWk))]) (r1:=.sh (aX c n T)) h1 lke2 h2 h (.inl rfl)]
theorem shw_B (hc:CNe c) {i:Nat} {g:FE} {δ:DSt} {n:Int} {T:List Tie} {ps:List Int} {b:Bool} (h1:aa i δ=some (.sh (cD c ps))) (h2:g δ=some (.sh (aX c n T))) (h:bT c [cD c ps,aX c n T]=some (.bl b)):shw c i g δ=some (.sh (.bl b)):=by
 unfold shw dalt;rw [meth_no (C':=c.Bar) (fs:=[("points",ao ps)]) h1 hc.1,meth1 (fs:=[("points",ao ps)]) (r1:=.sh (aX c n T)) h1 lkp2 h2 h (.inl rfl)]
section
variable (hc:CNe c) {n:Int} {T:List Tie} (W:aN n T)
include hc W
theorem rZ {e:Wlk Int Int} {es:List (Wlk Int Int)} (O:gU n T e es):eK c [cK n T,aX c n T,aS c (e::es)]=some (.bl true):=by
 have d2:=rT c W O;have d4:=nR c W O;obtain ⟨a1,a2,a3,a4,a5⟩:=ansE c hc (e::es);refine be (δ:=[sT n T,sW c n T,some (.sh (aS c (e::es)))]) (r:=.sh (.bl true)) rfl (skp ?_ (skp ?_ ?_)) rfl
 ·exact dH (dO (aI (dP (d:=aS c (e::es)) rfl a1))) (aI (bs (x:=some (.sh (.bl false))) (dP (d:=aS c (e::es)) rfl a2) (dP (d:=aS c (e::es)) rfl a3) rfl))
 ·exact dH (aI (dP (d:=aS c (e::es)) rfl a4)) (dH (aI (dP (d:=aS c (e::es)) rfl a5)) (pS (a:=true) (shw_E c (i:=2) (g:=aa 1) rfl rfl d2)))
 ·rw [dX,cp,aI (dP (f:=aa 2) (d:=aS c (e::es)) rfl a2)];show (aG (av 3 (gF c) (ab (aa 0) (ab (bZ (isC c.Ears) "ears" (aa 2)) (ab (ac (.bl false)) af)))) [sT n T,sW c n T,some (.sh (aS c (e::es)))]).bind _=_;rw [gX (cs3 rfl (fldE c (f:=aa 2) rfl) rfl d4) rfl];rfl
theorem right_bar {ps:List Int} (B:oB n T ps):eK c [cK n T,aX c n T,cD c ps]=some (.bl true):=by
 have hT:=W.2.2.1;have d2:=qW c W B;have d4:=qQ c B.pt B.lt;have d5:=m6 c T ps (by omega);have p1:=B.pos;have p2:=B.few;have p3:=B.one;obtain ⟨a1,a2,a3,a4,a5⟩:=ansB c hc ps;refine be (δ:=[sT n T,sW c n T,some (.sh (cD c ps))]) (r:=.sh (.bl true)) rfl (skp ?_ (skp ?_ (skp (aI (dP (d:=cD c ps) rfl a2)) (skp ?_ (gX (bA (b:=.sh (.int 2)) (cs2 (gK rfl) (fldB c rfl) d5) rfl ?_) rfl))))) rfl
 ·exact dH (dO (aI (dP (d:=cD c ps) rfl a1))) (aI (bs (x:=some (.sh (.bl false))) (dP (d:=cD c ps) rfl a2) (dP (d:=cD c ps) rfl a3) rfl))
 ·exact dH (aI (dP (d:=cD c ps) rfl a4)) (dH (aI (dP (d:=cD c ps) rfl a5)) (pS (a:=true) (shw_B c hc (i:=2) (g:=aa 1) rfl rfl d2)))
 ·exact dH (dO (aI (cs2 (fldB c rfl) (jl rfl) d4))) (dO (rW (a:=0) (b:=ps.length) (d:=n) rfl (len1 (fldB c rfl)) (jl rfl) (by omega) p2))
 ·simp;omega
end
theorem oNe_of {a b:D} {x:Bool} (h:oEq a b=some (.sh (.bl x))):oNe a b=some (.sh (.bl (!x))):=by
 unfold oEq at h;unfold oNe;split at h
 ·rename_i q;rw [if_pos q];simp only [Option.some.injEq,R.sh.injEq,D.bl.injEq] at h;rw [h]
 ·cases h
theorem lO (T S:List Tie):oNe (.lst (T.map aw)) (.lst (S.map aw))=some (.sh (.bl (!decide (T=S)))):=oNe_of (ET.oEqL (show max 1 1+1<=15 by decide) T S)
theorem open_some (hc:CNe c) {n:Int} {T:List Tie} (W:aN n T) (h3:3<=n):∃ d,cc c [aX c n T]=some d:=by
 cases h:iA n T with
 | none=>
  obtain ⟨e,es,O⟩:=p6 W h3 h;have few:=O.few W;exact ⟨_,open_ears c hc W h3 h O.ok.go (by simp;omega)⟩
 | some d=>exact ⟨_,rX c hc W h3 h⟩
noncomputable def B0:FS:=sif ((cx (ai (ad oEq (aa 5) (ac (.int 1)))) (ai (ad oGt (ad oIx (aa 1) (ac (.int 0))) (ac (.int 2)))))) (gP (dnw (cP 1 (cc c) (ab (aa 3) af)))) az
noncomputable def B1:FS:=jE 6 (cP 1 (jU c) (ab (aa 3) af))
noncomputable def B2:FS:=jF 6 (aP (ai (av 3 (eK c) (ab (aa 1) (ab (aa 3) (ab (aa 6) af)))))) (aG (ac (.bl false))) az
noncomputable def B3:FS:=i8 4 (mq 6 7 ((g7 (ax (ib c) (aa 6)) (ad oLt (av 2 (cR c) (ab (aa 4) (ab (bZ (isC c.Bar) "points" (aa 6)) af))) (ac (.int 2))))))
noncomputable def lessW:FE:=dnw (fu c.Web 2 (bL c) (ab (ad oIx (aa 1) (ac (.int 0))) (ab (aa 4) af)))
noncomputable def B4:FS:=i8 4 (jF 6 ((cx (ai (ad oNe (ad oIx (aa 1) (ac (.int 1))) (bX af))) (ai (ad oNe (shw c 6 (lessW c)) (aa 7))))) (aG (ac (.bl false))) az)
noncomputable def B5:FS:=jF 6 (ai (ax (eW c) (aa 6))) (ar (kL 6 ((([]++[.f c.Ears "ears"])++[.x 0])++[.x 0]) (ac (.int 0))) (smut 6 ([]++[.f c.Ears "ears"]) og)) (kL 6 ([]++[.f c.Bar "points"]) (ac (.int 0)))
noncomputable def B6:FS:=jF 6 (ai (ad kj (shw c 6 (aa 3)) (ac (.bl false)))) (aG (ac (.bl false))) az
noncomputable def lP:FS:=ar (B0 c) (ar (B1 c) (ar (B2 c) (ar (B3 c) (ar (B4 c) (ar (B5 c) (B6 c))))))
theorem setB1 {i k:Nat} {f:FE} {δ δ1:DSt} {b:Bool} (h:f (frz i δ)=some (.sh (.bl b))) (hd:δ.set k (some (.sh (.bl b)))=δ1):mq i k f δ=some (.nx δ1):=by
 unfold mq;rw [h];subst hd;rfl
theorem b0_ok (hc:CNe c) {e0 e2 e4 x6 x7:Option E} {n:Int} {T:List Tie} (W:aN n T) (k:Int):B0 c [e0,sT n T,e2,sW c n T,e4,si k,x6,x7]=some (.nx [e0,sT n T,e2,sW c n T,e4,si k,x6,x7]):=by
 unfold B0;have t:=pY (aI (bA (fa:=aa 5) (fb:=ac (.int 1)) (δ:=[e0,sT n T,e2,sW c n T,e4,si k,x6,x7]) (a:=.sh (.int k)) (b:=.sh (.int 1)) rfl rfl (oEq_ii k 1))) (aI (bA (fb:=ac (.int 2)) (a:=.sh (.int n)) (b:=.sh (.int 2)) (jl (f:=aa 1) rfl) rfl (oGt_ii n 2)));rw [cp,t];by_cases h:k=1/\2<n
 ·obtain ⟨d,hd⟩:=open_some c hc W (show 3<=n by omega);have:(decide (k=1)&&decide (n>2))=true:=by simp [h]
  rw [this];show gP (dnw (cP 1 (cc c) (ab (aa 3) af))) _=_;unfold gP;rw [dnw_e,ncall1 (r1:=.sh (aX c n T)) rfl hd rfl];rfl
 ·have:(decide (k=1)&&decide (n>2))=false:=by
   rw [Bool.and_eq_false_iff,decide_eq_false_iff_not,decide_eq_false_iff_not];omega
  rw [this];rfl
theorem less_eq {e0 e2 x5 x6 x7:Option E} {n:Int} {T:List Tie} (W:aN n T):lessW c [e0,sT n T,e2,sW c n T,some (.sh (.lst (T.tail.map aw))),x5,x6,x7]=some (.sh (aX c n T.tail)):=by
 unfold lessW;rw [dnw_e];erw [qO c (tail_ok W) (r1:=.sh (.int n)) (r2:=.sh (.lst (T.tail.map aw))) (by rw [aE,jl (f:=aa 1) rfl,ud,aE];rfl) rfl rfl rfl rfl];rfl
noncomputable def LessE (e4:Option E) (T:List Tie):Prop:=e4=some (.ow (T.tail.map aw))\/e4=some (.sh (.lst (T.tail.map aw)))
theorem frz4 {e0 e1 e2 e3 e4 x5 x6 x7:Option E} {T:List Tie} (h:LessE e4 T):frz 4 [e0,e1,e2,e3,e4,x5,x6,x7]=[e0,e1,e2,e3,some (.sh (.lst (T.tail.map aw))),x5,x6,x7]:=by
 rcases h with rfl | rfl <;> rfl
theorem body_bar (hc:CNe c) {e0 e2 e4 x6 x7:Option E} {n:Int} {T:List Tie} (W:aN n T) (h2:2<=n) (k:Int) (he:LessE e4 T) (h:ci n T≠[]) :
  ∃ y6 y7,lP c [e0,sT n T,e2,sW c n T,e4,si k,x6,x7]=some (.nx [e0,sT n T,e2,sW c n T,some (.sh (.lst (T.tail.map aw))),si k,y6,y7]):=by
 have hT:=W.2.2.1;have B:=bar_ok W h;have d1:=eared_bar c hc W h2 h;have d2:=right_bar c hc W B;have d3:=qW c (tail_ok W) (rh W B);have d4:=bar_off c W B;have d5:=m6 c T.tail (ci n T) (by simp;omega);have p3:=(rh W B).one;have hpl:(ci n T).length<=100:=by have:=B.few;have:=W.2.1;omega
 generalize ci n T=ps at *;obtain ⟨a1,a2,a3,a4,a5⟩:=ansB c hc ps;refine ⟨some (.nw (cD c (ps++[0]))),some (.sh (.bl true)),?_⟩;refine seq1 (b0_ok c hc W k) ?_;refine seq1 (δ1:=[e0,sT n T,e2,sW c n T,e4,si k,some (.nw (cD c ps)),x7]) (setN1 (ncall1 (r1:=.sh (aX c n T)) rfl d1 rfl) rfl) ?_;refine seq1 (m7 (dO (aI (cs3 rfl rfl rfl d2))) rfl) ?_;refine seq1 (δ1:=[e0,sT n T,e2,sW c n T,some (.sh (.lst (T.tail.map aw))),si k,some (.nw (cD c ps)),some (.sh (.bl true))]) ?_ ?_
 ·unfold B3;rw [dq,frz4 he];refine setB1 (b:=true) (pQ (dP (d:=cD c ps) rfl a3) (bA (b:=.sh (.int 2)) (cs2 rfl (fldB c rfl) d5) rfl ?_)) rfl;simp;omega
 refine seq1 (δ1:=[e0,sT n T,e2,sW c n T,some (.sh (.lst (T.tail.map aw))),si k,some (.nw (cD c ps)),some (.sh (.bl true))]) ?_ ?_
 ·have dn:bX af [e0,sT n T,e2,sW c n T,some (.sh (.lst (T.tail.map aw))),si k,some (.sh (cD c ps)),some (.sh (.bl true))]=some (.fr []):=by simp [show (0:Nat)<=big by decide]
  unfold B4;rw [dq,frz4 (.inr rfl)];refine m7 ?_ rfl;show cx _ _ [e0,sT n T,e2,sW c n T,some (.sh (.lst (T.tail.map aw))),si k,some (.sh (cD c ps)),some (.sh (.bl true))]=_;rw [pY (aI (bA (a:=.sh (.lst (T.map aw))) (b:=.fr []) (gK (f:=aa 1) rfl) dn (lO T []))) (aI (b:=false) (bs (shw_B c hc (i:=6) rfl (less_eq c W) d3) rfl (pP true true)))];simp
 refine seq1 (δ1:=[e0,sT n T,e2,sW c n T,some (.sh (.lst (T.tail.map aw))),si k,some (.nw (cD c (ps++[0]))),some (.sh (.bl true))]) (m7 (aI (dP (d:=cD c ps) rfl a2)) ?_) ?_
 ·have hb:ps.length<=big:=by rw [bo];omega
  unfold kL;simp [sub,Ew.putAt,setF,cD,lkp,ao,hb,D.flat]
 ·exact m7 (pS (a:=false) (shw_B c hc (i:=6) (g:=aa 3) rfl rfl d4)) rfl
theorem body_ears (hc:CNe c) {e0 e2 e4 x6 x7:Option E} {n:Int} {T:List Tie} (W:aN n T) (h2:2<=n) (k:Int) (he:LessE e4 T) (h:ci n T=[]) :
  ∃ y6 y7,lP c [e0,sT n T,e2,sW c n T,e4,si k,x6,x7]=some (.nx [e0,sT n T,e2,sW c n T,some (.sh (.lst (T.tail.map aw))),si k,y6,y7]):=by
 have hT:=W.2.2.1;obtain ⟨e,es,O⟩:=ears_cons W h h2;have few:=O.few W;have d1:=rQ c hc W h2 h O.ok.go (by simp;omega);have d2:=rZ c hc W O;have d3:=rV c W O;have d4:bb c [aS c (((e.1++[0],e.2)::es).dropLast),aX c n T]=some (.bl false):=by
  cases es with
  | nil=>exact shows_nil c
  | cons w ws=>
   rw [List.dropLast_cons₂];have hlen:=O.ok.fr.1.len;have hs:=O.small W e (by simp);exact rg c (w:=(e.1++[0],e.2)) (by simp;omega) (by simp;omega) (by simp;omega)
 have hsm:=(O.small W e (by simp)).1;obtain ⟨a1,a2,a3,a4,a5⟩:=ansE c hc (e::es);refine ⟨some (.nw (aS c (((e.1++[0],e.2)::es).dropLast))),some (.sh (.bl false)),?_⟩;refine seq1 (b0_ok c hc W k) ?_;refine seq1 (δ1:=[e0,sT n T,e2,sW c n T,e4,si k,some (.nw (aS c (e::es))),x7]) (setN1 (ncall1 (r1:=.sh (aX c n T)) rfl d1 rfl) rfl) ?_;refine seq1 (m7 (dO (aI (cs3 rfl rfl rfl d2))) rfl) ?_;refine seq1 (δ1:=[e0,sT n T,e2,sW c n T,some (.sh (.lst (T.tail.map aw))),si k,some (.nw (aS c (e::es))),some (.sh (.bl false))]) ?_ ?_
 ·unfold B3;rw [dq,frz4 he];exact setB1 (b:=false) (and_ff (dP (d:=aS c (e::es)) rfl a3)) rfl
 refine seq1 (δ1:=[e0,sT n T,e2,sW c n T,some (.sh (.lst (T.tail.map aw))),si k,some (.nw (aS c (e::es))),some (.sh (.bl false))]) ?_ ?_
 ·have dn:bX af [e0,sT n T,e2,sW c n T,some (.sh (.lst (T.tail.map aw))),si k,some (.sh (aS c (e::es))),some (.sh (.bl false))]=some (.fr []):=by simp [show (0:Nat)<=big by decide]
  unfold B4;rw [dq,frz4 (.inr rfl)];refine m7 ?_ rfl;show cx _ _ [e0,sT n T,e2,sW c n T,some (.sh (.lst (T.tail.map aw))),si k,some (.sh (aS c (e::es))),some (.sh (.bl false))]=_;rw [pY (aI (bA (a:=.sh (.lst (T.map aw))) (b:=.fr []) (gK (f:=aa 1) rfl) dn (lO T []))) (aI (b:=false) (bs (shw_E c (i:=6) rfl (less_eq c W) d3) rfl (pP false false)))];simp
 refine seq1 (δ1:=[e0,sT n T,e2,sW c n T,some (.sh (.lst (T.tail.map aw))),si k,some (.nw (aS c (((e.1++[0],e.2)::es).dropLast))),some (.sh (.bl false))]) (ifB_t (aI (dP (d:=aS c (e::es)) rfl a2)) ?_) ?_
 ·refine seq1 (δ1:=[e0,sT n T,e2,sW c n T,some (.sh (.lst (T.tail.map aw))),si k,some (.nw (aS c ((e.1++[0],e.2)::es))),some (.sh (.bl false))]) ?_ ?_
  ·have hb:(e.1.map D.int).length<=big:=by rw [bo];simp;omega
   unfold kL;simp [sub,Ew.putAt,setF,setX,aS,pV,eWk,bc,ao,Enc.int];simp at hb;simp [hb,D.flat]
  ·unfold smut;simp [sub,Ew.putAt,setF,og,aS,pV,List.map_dropLast]
 ·exact m7 (pS (a:=false) (shw_E c (i:=6) (g:=aa 3) rfl rfl d4)) rfl
theorem ri (hc:CNe c) {e0 e2:Option E} {n:Int} {T:List Tie} (W:aN n T) (hn2:2<=n):∀ (ks:List Nat) (e4 x5 x6 x7:Option E),LessE e4 T->
  ∃ y4 y5 y6 y7,ba (aq 5) (lP c) (ks.map fun k=>D.int (0+((k:Nat):Int))) [e0,sT n T,e2,sW c n T,e4,x5,x6,x7]=some (.nx [e0,sT n T,e2,sW c n T,y4,y5,y6,y7])
 | [],e4,x5,x6,x7,_=>⟨_,_,_,_,rfl⟩
 | k::ks,e4,x5,x6,x7,he=>by
  obtain ⟨y6,y7,hb⟩ : ∃ y6 y7,lP c [e0,sT n T,e2,sW c n T,e4,si (0+(k:Int)),x6,x7]=some (.nx [e0,sT n T,e2,sW c n T,some (.sh (.lst (T.tail.map aw))),si (0+(k:Int)),y6,y7]):=by
   by_cases h:ci n T=[]
   ·exact body_ears c hc W hn2 _ he h
   ·exact body_bar c hc W hn2 _ he h
  obtain ⟨z4,z5,z6,z7,ih⟩:=ri hc (e0:=e0) (e2:=e2) W hn2 ks _ (si (0+(k:Int))) y6 y7 (.inr rfl);refine ⟨z4,z5,z6,z7,?_⟩;rw [List.map_cons];unfold ba;have hg:aq 5 (.int (0+(k:Int))) [e0,sT n T,e2,sW c n T,e4,x5,x6,x7]=some [e0,sT n T,e2,sW c n T,e4,si (0+(k:Int)),x6,x7]:=rfl;rw [hg];simp only [ud];rw [hb];simp only [ud,cV];exact ih
theorem tiesF_eq (n:Int) (T:List Tie):eJ c [aX c n T]=some (T.map aw):=by
 simp [eJ,runF,gy,aX,qL,dI]
theorem law_true (hc:CNe c) (K:Frag):∀ ns:List Int,ns.length<=63->m_law c K ns=some (.bl true):=by
 intro ns _;obtain ⟨v0,hv0⟩:=mZ c K ns (k:=0) (by omega);obtain ⟨v1,hv1⟩:=mZ c K ns (k:=1) (by omega);obtain ⟨n,T,ht,W,hn2⟩:=told_eq c (v0+31*v1) 2 (by omega) (by omega);have hT:=W.2.2.1;have hbt:(T.map aw).length<=big:=by rw [bo];simp;omega
 obtain ⟨y4,y5,y6,y7,hl⟩:=ri c hc (e0:=some (.scr K ns)) (e2:=some (.ow (T.map aw++[aw (0,1)]))) W hn2 (List.range 2) (some (.ow (T.tail.map aw))) none none none (.inl rfl);have hr:F_law c K [some (.scr K ns),none,none,none,none,none,none,none]=some (.rt (.sh (.bl true))):=by
  refine seq1 (δ1:=[some (.scr K ns),sT n T,none,none,none,none,none,none]) ?_ (seq1 (δ1:=[some (.scr K ns),sT n T,some (.ow (T.map aw)),none,none,none,none,none]) ?_ (seq1 (δ1:=[some (.scr K ns),sT n T,some (.ow (T.map aw)),sW c n T,none,none,none,none]) ?_ (skp ?_ (seq1 (δ1:=[some (.scr K ns),sT n T,some (.ow (T.map aw++[aw (0,1)])),sW c n T,none,none,none,none]) ?_ (seq1 (δ1:=[some (.scr K ns),sT n T,some (.ow (T.map aw++[aw (0,1)])),sW c n T,none,none,none,none]) ?_ (seq1 (δ1:=[some (.scr K ns),sT n T,some (.ow (T.map aw++[aw (0,1)])),sW c n T,some (.ow (T.tail.map aw)),none,none,none]) ?_ (seq1 (δ1:=[some (.scr K ns),sT n T,some (.ow (T.map aw++[aw (0,1)])),sW c n T,y4,y5,y6,y7]) ?_ ?_)))))))
  ·exact dh (cs2 (bs (m5 c rfl hv0) (bs rfl (m5 c rfl hv1) (mulL (by omega) (by omega))) rfl) rfl ht) rfl rfl
  ·refine dh (r:=.fr (T.map aw)) ?_ rfl rfl;rw [b7,aE,gK (f:=aa 1) rfl];rfl
  ·unfold mC;have hz:frz 2 [some (.scr K ns),sT n T,some (.ow (T.map aw)),none,none,none,none,none]=[some (.scr K ns),sT n T,some (.sh (.lst (T.map aw))),none,none,none,none,none]:=rfl;rw [hz,qO c W (r1:=.sh (.int n)) (r2:=.sh (.lst (T.map aw))) (by rw [aE,jl (f:=aa 1) rfl,ud,aE];rfl) rfl rfl rfl rfl];rfl
  ·exact dH (aI (b:=false) (bA (a:=.bw (T.map aw)) (b:=.sh (.lst (T.map aw))) rfl (gK (f:=aa 1) rfl) ((lO T T).trans (by simp)))) (dH (aI (b:=false) (bs (ni c (f:=aa 3) rfl) (jl (f:=aa 1) rfl) (by simp))) (aI (b:=false) (bs (db c (f:=aa 3) rfl) (gK (f:=aa 1) rfl) ((lO T T).trans (by simp)))))
  ·have b2:(2:Nat)<=big:=by decide
   simp at hbt;simp [de,b2,hbt]
  ·have hm:jf c.Web "ties" 1 (eJ c) (aa 3) af [some (.scr K ns),sT n T,some (.ow (T.map aw++[aw (0,1)])),sW c n T,none,none,none,none]=some (.fr (T.map aw)):=by
    have:=tiesF_eq c n T;unfold jf;simp [aX,lk_ties] at this ⊢;simp [this]
   unfold sappT;rw [hm];simp only [ud,jb];rw [if_neg (by decide),if_pos hbt]
  ·exact dh (told_1s (f:=aa 1) rfl) rfl rfl
  ·have hi:=rngE (f:=ac (.int 2)) (δ:=[some (.scr K ns),sT n T,some (.ow (T.map aw++[aw (0,1)])),sW c n T,some (.ow (T.tail.map aw)),none,none,none]) (j:=2) rfl (by omega) (by omega);unfold bN;rw [hi];exact hl
  ·refine gX (bs (db c rfl) (gK rfl) ?_) rfl;have:=ET.oEqL (show max 1 1+1<=15 by decide) T T;exact this.trans (by simp)
 unfold m_law runL;have e:F_law c K (some (.scr K ns)::List.replicate (8-1) none)=some (.rt (.sh (.bl true))):=hr;rw [e];rfl
end Pg
end
section
set_option maxHeartbeats 0
lay_quick PySem.Challenge.rw_earworks_k01_whole_ears
namespace Hx
open PySem PySem.W L2
noncomputable section
abbrev Pf:Program:=(PySem.W.Fast.tw2368527892694137696 PySem.W.Fast.tw6228824441533323432).toRowW.1
noncomputable def U (i:Nat):Stmt:=Pf.main.body.getD i (.Pass ⟨0,0,0,0⟩)
noncomputable def M (i j:Nat):Stmt:=inClass (U i) j
abbrev vI:=@Value.int
abbrev vR:=@Value.ref
abbrev vS:=@Value.str
abbrev vN:=Value.none
abbrev vT:=@Value.type
abbrev vB:=@Value.bool
abbrev vU:=@Value.builtin
abbrev kH:=@PyData.keyHash
abbrev dE:=@DictEntry.mk
abbrev d_A:=@bp
abbrev d_B:=@aU
abbrev d_S:=@au
abbrev y0:String:=PySem.W.SL.s2766695959194262286x5
abbrev y1:String:=PySem.W.SL.s5856160107412720595x4
abbrev y2:String:=PySem.W.SL.s658472552662922059x5
abbrev y3:String:=PySem.W.SL.s14018661285674007319x4
abbrev y4:String:=PySem.W.SL.s7097527257260152453x26
abbrev y5:String:=PySem.W.SL.s7174869446012820540x8
abbrev y6:String:=PySem.W.SL.s11030030927630378310x26
abbrev y7:String:=PySem.W.SL.s10062305145149207511x16
abbrev y8:String:=PySem.W.SL.s17162191345867700912x4
abbrev y9:String:=PySem.W.SL.s2742458400755230247x6
abbrev y10:String:=PySem.W.SL.s11443829558043349243x14
abbrev y11:String:=PySem.W.SL.s14755015743595814543x17
abbrev y12:String:=PySem.W.SL.s6511155373996960695x17
abbrev y13:String:=PySem.W.SL.s12411053484034534018x21
abbrev y14:String:=PySem.W.SL.s10220274742760427390x26
abbrev y15:String:=PySem.W.SL.s4290257624100764138x5
abbrev y16:String:=PySem.W.SL.s4860613602091757760x24
abbrev y17:String:=PySem.W.SL.s6070975301684473832x10
abbrev y18:String:=PySem.W.SL.s5946037652744460706x9
abbrev y19:String:=PySem.W.SL.s4278001404047624695x13
abbrev y20:String:=PySem.W.SL.s4209523147560561109x18
noncomputable def z0:Str:=⟨⟨[60,109,111,100,117,108,101,62]⟩⟩
noncomputable def z1:Str:=⟨⟨[47,99,108,97,105,109,47,99,117,116,46,112,121]⟩⟩
noncomputable def z2:Str:=⟨⟨[95,95,109,97,105,110,95,95]⟩⟩
noncomputable def z3:Str:=⟨⟨[95,95,110,97,109,101,95,95]⟩⟩
noncomputable def z4:Str:=⟨⟨[101,97,114,119,111,114,107,115,46,98,97,115,105,99,115]⟩⟩
noncomputable def z5:Str:=⟨⟨[95,95,100,111,99,95,95]⟩⟩
noncomputable def z6:Str:=⟨⟨[95,95,112,97,99,107,97,103,101,95,95]⟩⟩
noncomputable def z7:Str:=⟨⟨[95,95,108,111,97,100,101,114,95,95]⟩⟩
noncomputable def z8:Str:=⟨⟨[95,95,115,112,101,99,95,95]⟩⟩
noncomputable def z9:Str:=⟨⟨[95,95,97,110,110,111,116,97,116,105,111,110,115,95,95]⟩⟩
noncomputable def z10:Str:=⟨⟨[95,95,98,117,105,108,116,105,110,115,95,95]⟩⟩
noncomputable def z11:Str:=⟨⟨[95,95,102,105,108,101,95,95]⟩⟩
noncomputable def z12:Str:=⟨⟨[95,95,99,97,99,104,101,100,95,95]⟩⟩
noncomputable def z13:Str:=⟨⟨[95,119,97,108,108]⟩⟩
noncomputable def z14:Str:=⟨⟨[105,115,95,110,117,109,98,101,114]⟩⟩
noncomputable def z15:Str:=⟨⟨[97,108,108,95,100,105,102,102,101,114]⟩⟩
noncomputable def z16:Str:=⟨⟨[104,97,115,95,112,111,105,110,116]⟩⟩
noncomputable def z17:Str:=⟨⟨[97,108,108,95,112,111,105,110,116,115]⟩⟩
noncomputable def z18:Str:=⟨⟨[105,115,95,112,111,105,110,116,95,115,101,116]⟩⟩
noncomputable def z19:Str:=⟨⟨[116,105,101,95,98,101,116,119,101,101,110]⟩⟩
noncomputable def z20:Str:=⟨⟨[111,116,104,101,114,95,101,110,100]⟩⟩
noncomputable def z21:Str:=⟨⟨[112,111,105,110,116,115,95,108,101,102,116,95,116,111]⟩⟩
noncomputable def z22:Str:=⟨⟨[105,115,95,108,101,102,116,95,98,121,95,100,111,111,114]⟩⟩
noncomputable def z23:Str:=⟨⟨[98,97,99,107,119,97,114,100,115]⟩⟩
noncomputable def z24:Str:=⟨⟨[114,101,97,99,104,101,100]⟩⟩
noncomputable def z25:Str:=⟨⟨[105,115,95,119,97,108,107]⟩⟩
noncomputable def z26:Str:=⟨⟨[107]⟩⟩
noncomputable def z27:Str:=⟨⟨[118,97,108,117,101]⟩⟩
noncomputable def z28:Str:=⟨⟨[110,117,109,98,101,114,115]⟩⟩
noncomputable def z29:Str:=⟨⟨[119,101,98]⟩⟩
noncomputable def z30:Str:=⟨⟨[112,111,105,110,116]⟩⟩
noncomputable def z31:Str:=⟨⟨[111,110,101]⟩⟩
noncomputable def z32:Str:=⟨⟨[111,116,104,101,114]⟩⟩
noncomputable def z33:Str:=⟨⟨[116,105,101]⟩⟩
noncomputable def z34:Str:=⟨⟨[98,101,103,105,110]⟩⟩
noncomputable def z35:Str:=⟨⟨[115,116,101,112,115]⟩⟩
noncomputable def z36:Str:=⟨⟨[102,111,117,110,100]⟩⟩
noncomputable def z37:Str:=⟨⟨[112,108,97,99,101]⟩⟩
noncomputable def z38:Str:=⟨⟨[115,116,101,112]⟩⟩
noncomputable def z39:Str:=⟨⟨[101,97,114,119,111,114,107,115,46,97,110,115,119,101,114,115]⟩⟩
noncomputable def z40:Str:=⟨⟨[105,115,95,119,97,121]⟩⟩
noncomputable def z41:Str:=⟨⟨[105,115,95,114,105,110,103]⟩⟩
noncomputable def z42:Str:=⟨⟨[99,111,112,105,101,100,95,119,97,108,107,115]⟩⟩
noncomputable def z43:Str:=⟨⟨[112,108,97,99,101,115,95,111,102]⟩⟩
noncomputable def z44:Str:=⟨⟨[105,115,95,102,117,114,116,104,101,114,95,101,97,114]⟩⟩
noncomputable def z45:Str:=⟨⟨[65,110,115,119,101,114]⟩⟩
noncomputable def z46:Str:=⟨⟨[119,97,108,107]⟩⟩
noncomputable def z47:Str:=⟨⟨[119,97,108,107,115]⟩⟩
noncomputable def z48:Str:=⟨⟨[112,108,97,99,101,115]⟩⟩
noncomputable def z49:Str:=⟨⟨[95,95,109,111,100,117,108,101,95,95]⟩⟩
noncomputable def z50:Str:=⟨⟨[95,95,113,117,97,108,110,97,109,101,95,95]⟩⟩
noncomputable def z51:Str:=⟨⟨[95,95,102,105,114,115,116,108,105,110,101,110,111,95,95]⟩⟩
noncomputable def z52:Str:=⟨⟨[95,95,115,116,97,116,105,99,95,97,116,116,114,105,98,117,116,101,115,95,95]⟩⟩
noncomputable def z53:Str:=⟨⟨[95,95,100,105,99,116,95,95]⟩⟩
noncomputable def z54:Str:=⟨⟨[95,95,119,101,97,107,114,101,102,95,95]⟩⟩
noncomputable def z55:Str:=⟨⟨[69,97,114,115]⟩⟩
noncomputable def z56:Str:=⟨⟨[95,95,105,110,105,116,95,95]⟩⟩
noncomputable def z57:Str:=⟨⟨[115,104,111,119,115]⟩⟩
noncomputable def z58:Str:=⟨⟨[97,108,108,95,119,97,121,115]⟩⟩
noncomputable def z59:Str:=⟨⟨[115,101,108,102]⟩⟩
noncomputable def z60:Str:=⟨⟨[101,97,114,115]⟩⟩
noncomputable def z61:Str:=⟨⟨[69,97,114,115,46,95,95,105,110,105,116,95,95]⟩⟩
noncomputable def z62:Str:=⟨⟨[97,104,101,97,100]⟩⟩
noncomputable def z63:Str:=⟨⟨[101,97,114]⟩⟩
noncomputable def z64:Str:=⟨⟨[97,108,108,95,112,108,97,99,101,115]⟩⟩
noncomputable def z65:Str:=⟨⟨[69,97,114,115,46,115,104,111,119,115]⟩⟩
noncomputable def z66:Str:=⟨⟨[69,97,114,115,46,97,108,108,95,119,97,121,115]⟩⟩
noncomputable def z67:Str:=⟨⟨[66,97,114]⟩⟩
noncomputable def z68:Str:=⟨⟨[112,111,105,110,116,115]⟩⟩
noncomputable def z69:Str:=⟨⟨[66,97,114,46,95,95,105,110,105,116,95,95]⟩⟩
noncomputable def z70:Str:=⟨⟨[66,97,114,46,115,104,111,119,115]⟩⟩
noncomputable def z71:Str:=⟨⟨[74,111,105,110,116]⟩⟩
noncomputable def z72:Str:=⟨⟨[111,116,104,101,114,115]⟩⟩
noncomputable def z73:Str:=⟨⟨[74,111,105,110,116,46,95,95,105,110,105,116,95,95]⟩⟩
noncomputable def z74:Str:=⟨⟨[74,111,105,110,116,46,115,104,111,119,115]⟩⟩
noncomputable def z75:Str:=⟨⟨[101,97,114,119,111,114,107,115,46,101,114,114,111,114,115]⟩⟩
noncomputable def z76:Str:=⟨⟨[84,117,114,110,101,100]⟩⟩
noncomputable def z77:Str:=⟨⟨[98,101,103,105,110,115]⟩⟩
noncomputable def z78:Str:=⟨⟨[84,117,114,110,101,100,46,95,95,105,110,105,116,95,95]⟩⟩
noncomputable def z79:Str:=⟨⟨[84,117,114,110,101,100,46,115,104,111,119,115]⟩⟩
noncomputable def z80:Str:=⟨⟨[87,101,98,69,114,114,111,114]⟩⟩
noncomputable def z81:Str:=⟨⟨[66,97,100,87,101,98]⟩⟩
noncomputable def z82:Str:=⟨⟨[101,97,114,119,111,114,107,115,46,102,108,111,119,115]⟩⟩
noncomputable def z83:Str:=⟨⟨[84,111,111,70,101,119]⟩⟩
noncomputable def z84:Str:=⟨⟨[115,116,101,112,115,95,111,102]⟩⟩
noncomputable def z85:Str:=⟨⟨[115,116,101,112,115,95,98,101,115,105,100,101]⟩⟩
noncomputable def z86:Str:=⟨⟨[115,116,101,112,115,95,98,117,116]⟩⟩
noncomputable def z87:Str:=⟨⟨[115,104,111,114,116,101,115,116,95,119,97,108,107]⟩⟩
noncomputable def z88:Str:=⟨⟨[115,116,101,112,95,97,110,100,95,119,97,108,107]⟩⟩
noncomputable def z89:Str:=⟨⟨[101,110,100,115]⟩⟩
noncomputable def z90:Str:=⟨⟨[109,101,116]⟩⟩
noncomputable def z91:Str:=⟨⟨[101,97,114,119,111,114,107,115,46,101,97,114,115]⟩⟩
noncomputable def z92:Str:=⟨⟨[119,97,121,95,111,118,101,114]⟩⟩
noncomputable def z93:Str:=⟨⟨[114,105,110,103,95,111,118,101,114]⟩⟩
noncomputable def z94:Str:=⟨⟨[77,79,83,84,95,80,79,73,78,84,83]⟩⟩
noncomputable def z95:Str:=⟨⟨[77,79,83,84,95,84,73,69,83]⟩⟩
noncomputable def z96:Str:=⟨⟨[105,115,95,116,105,101]⟩⟩
noncomputable def z97:Str:=⟨⟨[87,101,98]⟩⟩
noncomputable def z98:Str:=⟨⟨[101,97,114,119,111,114,107,115,46,119,101,98,115]⟩⟩
noncomputable def z99:Str:=⟨⟨[116,105,101,115]⟩⟩
noncomputable def z100:Str:=⟨⟨[87,101,98,46,95,95,105,110,105,116,95,95]⟩⟩
noncomputable def z101:Str:=⟨⟨[87,101,98,46,116,105,101,115]⟩⟩
noncomputable def z102:Str:=⟨⟨[112,97,105,114,115]⟩⟩
noncomputable def eZ:Str:=⟨⟨[108,97,119,95,101,97,114,119,111,114,107,115,95,107,48,49,95,119,104,111,108,101,95,101,97,114,115]⟩⟩
noncomputable def li:Str:=⟨⟨[114,101,102,117,115,101,95,102,101,119,101,114]⟩⟩
noncomputable def lj:Str:=⟨⟨[112,111,105,110,116,115,95,98,101,104,105,110,100,95,97,95,98,97,114]⟩⟩
noncomputable def ll:Str:=⟨⟨[111,116,104,101,114,115,95,98,101,104,105,110,100]⟩⟩
noncomputable def ln:Str:=⟨⟨[110,101,120,116,95,101,97,114]⟩⟩
noncomputable def lq:Str:=⟨⟨[97,108,108,95,101,97,114,115]⟩⟩
noncomputable def lr:Str:=⟨⟨[101,97,114,101,100]⟩⟩
noncomputable def lu:Str:=⟨⟨[111,112,101,110,95,101,97,114,101,100]⟩⟩
noncomputable def lv:Str:=⟨⟨[95,108,97,119,95,99,101,108,108,95,97,116]⟩⟩
noncomputable def lw:Str:=⟨⟨[95,108,97,119,95,100,114,97,119]⟩⟩
noncomputable def lx:Str:=⟨⟨[95,108,97,119,95,116,111,108,100]⟩⟩
noncomputable def ly:Str:=⟨⟨[95,108,97,119,95,108,101,97,118,105,110,103]⟩⟩
noncomputable def lz:Str:=⟨⟨[95,108,97,119,95,114,105,115,105,110,103]⟩⟩
noncomputable def z116:Str:=⟨⟨[108,101,97,115,116]⟩⟩
noncomputable def z117:Str:=⟨⟨[95,108,97,119,95,115,99,114,105,112,116]⟩⟩
noncomputable def z118:Str:=⟨⟨[95,108,97,119,95,107]⟩⟩
noncomputable def z119:Str:=⟨⟨[95,108,97,119,95,99,101,108,108]⟩⟩
noncomputable def z120:Str:=⟨⟨[95,108,97,119,95,109,97,110,121]⟩⟩
noncomputable def z121:Str:=⟨⟨[95,108,97,119,95,112,114,105,109,101,115]⟩⟩
noncomputable def z122:Str:=⟨⟨[95,108,97,119,95,108,101,97,115,116]⟩⟩
noncomputable def z123:Str:=⟨⟨[95,108,97,119,95,112,111,105,110,116,115]⟩⟩
noncomputable def z124:Str:=⟨⟨[95,108,97,119,95,107,105,110,100]⟩⟩
noncomputable def z125:Str:=⟨⟨[95,108,97,119,95,116,105,101,115]⟩⟩
noncomputable def z126:Str:=⟨⟨[95,108,97,119,95,116,117,114,110]⟩⟩
noncomputable def z127:Str:=⟨⟨[95,108,97,119,95,111,110,101]⟩⟩
noncomputable def z128:Str:=⟨⟨[95,108,97,119,95,111,116,104,101,114]⟩⟩
noncomputable def z129:Str:=⟨⟨[95,108,97,119,95,109,111,115,116]⟩⟩
noncomputable def z130:Str:=⟨⟨[95,108,97,119,95,115,111,109,101]⟩⟩
noncomputable def z131:Str:=⟨⟨[95,108,97,119,95,108,97,115,116]⟩⟩
noncomputable def z132:Str:=⟨⟨[95,108,97,119,95,112,111,105,110,116]⟩⟩
noncomputable def z133:Str:=⟨⟨[95,108,97,119,95,105,115,95,119,97,108,107]⟩⟩
noncomputable def z134:Str:=⟨⟨[95,108,97,119,95,105,115,95,119,97,121]⟩⟩
noncomputable def z135:Str:=⟨⟨[95,108,97,119,95,105,115,95,114,105,110,103]⟩⟩
noncomputable def z136:Str:=⟨⟨[95,108,97,119,95,101,97,114,115]⟩⟩
noncomputable def z137:Str:=⟨⟨[95,108,97,119,95,114,105,103,104,116]⟩⟩
noncomputable def z138:Str:=⟨⟨[108,97,119]⟩⟩
noncomputable def z139:Str:=⟨⟨[95,108,97,119,95,116,111,108,100,95,104,101,114,101]⟩⟩
noncomputable def z140:Str:=⟨⟨[95,108,97,119,95,119,97,108,107]⟩⟩
noncomputable def z141:Str:=⟨⟨[95,108,97,119,95,119,101,98]⟩⟩
noncomputable def z142:Str:=⟨⟨[95,108,97,119,95,102,111,117,110,100]⟩⟩
noncomputable def z143:Str:=⟨⟨[95,108,97,119,95,104,97,110,100,101,100]⟩⟩
noncomputable def z144:Str:=⟨⟨[95,108,97,119,95,108,101,115,115]⟩⟩
noncomputable def z145:Str:=⟨⟨[95,108,97,119,95,97,103,97,105,110]⟩⟩
noncomputable def z146:Str:=⟨⟨[95,108,97,119,95,100,117,101]⟩⟩
noncomputable def oT (l:List Value):Params->Obj:=fun _=>Obj.mk (vT y0) none (.seq l.toArray 0) #[]
noncomputable def oF (l:List Value):Params->Obj:=fun _=>Obj.mk vN none (.fields l.toArray) #[]
noncomputable def oC (a:Str) (a':Nat) (b:Str) (b' c:Nat) (d:Int) (e f:Int) (h:Nat) (i:Bool) (j k l m:Nat) (n o:Int) (p:Nat):Params->Obj:=fun _=>Obj.mk (vT y1) none (.fields #[vS a a',vS b b',vS z1 c,vI d 0,vI e 0,vI 0 0,vI 0 0,vI f 0,vR h,vB i,vI 181 0,vR j,vN,vR k,vR l,vR m,vI n 0,vI o 0,vS z1 p]) #[]
noncomputable def oG (a b:Str) (s:Stmt):Params->Obj:=fun _=>Obj.mk vN none (.func (FuncData.mk a b (d_A s) (.stmts (d_B s)) (d_S s) 0 [] vN vN vN vN none vN vN 0)) #[]
noncomputable def oH (a b:Str) (s:Stmt) (m:Str) (k r:Nat):Params->Obj:=fun _=>Obj.mk (vT y5) none (.func (FuncData.mk a b (d_A s) (.stmts (d_B s)) (d_S s) 3 [] vN vN vN (vS m k) none (vR r) vN 0)) #[]
noncomputable def ev {α:Type}:List α->List α
 | []=>[]
 | [x]=>[x]
 | x::_::r=>x::ev r
noncomputable def od {α:Type}:List α->List α
 | []=>[]
 | [_]=>[]
 | _::y::r=>y::od r
noncomputable def bt (P:Params):Nat->List (Params->Obj)->BT
 | 0,_=>.nil
 | _+1,[]=>.nil
 | f+1,x::xs=>.node (x P) (bt P f (ev xs)) (bt P f (od xs))
noncomputable def l0:List (Params->Obj):=[boot_o_0,boot_o_1,boot_o_2,boot_o_3,boot_o_4,boot_o_5,boot_o_6,boot_o_7,boot_o_8,boot_o_9,boot_o_10,oT [],oF [],fun _=>Obj.mk (vT y1) none (.fields #[vS z0 182,vS z0 183,vS z1 184,vI 1 0,vI 0 0,vI 0 0,vI 0 0,vI 0 0,vR 11,vB false,vI 181 0,vR 12,vN,vN,vN,vN,vI 185 0,vI 1 0,vS z1 186]) #[],fun _=>Obj.mk (vT y2) none .plain #[some (vR 13),some (vR 3),some (vR 3),none,some (vS z2 164),none,some (vR 0)]]
noncomputable def t0 (P:Params):BT:=bt P 10 l0
noncomputable def l1:List (Params->Obj):=((l0.set 3 (fun P=>Obj.mk (vT y3) none (.dict #[dE (kH P z3) (vS z3 165) (vS z4 194),dE (kH P z5) (vS z5 166) vN,dE (kH P z6) (vS z6 167) vN,dE (kH P z7) (vS z7 168) (vU y4),dE (kH P z8) (vS z8 169) vN,dE (kH P z9) (vS z9 170) (vR 6),dE (kH P z10) (vS z10 171) (vR 4),dE (kH P z11) (vS z11 173) (vS z1 172),dE (kH P z12) (vS z12 174) vN,dE (kH P z13) (vS z13 193) (vR 21),dE (kH P z14) (vS z14 202) (vR 28),dE (kH P z15) (vS z15 209) (vR 35),dE (kH P z16) (vS z16 217) (vR 42),dE (kH P z17) (vS z17 224) (vR 49),dE (kH P z18) (vS z18 230) (vR 54),dE (kH P z19) (vS z19 238) (vR 61),dE (kH P z20) (vS z20 246) (vR 68),dE (kH P z21) (vS z21 252) (vR 73),dE (kH P z22) (vS z22 258) (vR 78),dE (kH P z23) (vS z23 264) (vR 83),dE (kH P z24) (vS z24 275) (vR 90),dE (kH P z25) (vS z25 281) (vR 95)] 22) #[])).set 12 (oF [vI 1 0,vI 0 0,vR 20,vI 5 0,vI 0 0,vR 27,vI 7 0,vI 0 0,vR 34,vI 9 0,vI 0 0,vR 41,vI 11 0,vI 0 0,vR 48,vI 13 0,vI 0 0,vR 53,vI 15 0,vI 0 0,vR 60,vI 17 0,vI 0 0,vR 67,vI 19 0,vI 0 0,vR 72,vI 22 0,vI 0 0,vR 77,vI 28 0,vI 0 0,vR 82,vI 30 0,vI 0 0,vR 89,vI 39 0,vI 0 0,vR 94]))++[oT [],oF [],oT [vS z26 190],oT [],oG z13 z13 (U 0),oC z13 187 z13 188 189 1 1 3 15 true 16 17 18 19 191 1 192,oH z13 z13 (U 0) z2 164 20,oT [],oF [],oT [vS z27 199],oT [],oG z14 z14 (U 2),oC z14 196 z14 197 198 5 1 3 22 true 23 24 25 26 200 5 201,oH z14 z14 (U 2) z4 194 27,oT [],oF [],oT [vS z28 206],oT [],oG z15 z15 (U 3),oC z15 203 z15 204 205 7 1 3 29 true 30 31 32 33 207 7 208,oH z15 z15 (U 3) z4 194 34,oT [],oF [],oT [vS z29 213,vS z30 214],oT [],oG z16 z16 (U 4),oC z16 210 z16 211 212 9 2 3 36 true 37 38 39 40 215 9 216,oH z16 z16 (U 4) z4 194 41,oT [],oF [],oT [vS z29 221],oT [],oG z17 z17 (U 5),oC z17 218 z17 219 220 11 1 3 43 true 44 45 46 47 222 11 223,oH z17 z17 (U 5) z4 194 48,oT [],oF [],oG z18 z18 (U 6),fun _=>Obj.mk (vT y1) none (.fields #[vS z18 225,vS z18 226,vS z1 227,vI 13 0,vI 2 0,vI 0 0,vI 0 0,vI 3 0,vR 50,vB true,vI 181 0,vR 51,vN,vN,vN,vR 52,vI 228 0,vI 13 0,vS z1 229]) #[],oH z18 z18 (U 6) z4 194 53,oT [],oF [],oT [vS z31 234,vS z32 235],oT [],oG z19 z19 (U 7),oC z19 231 z19 232 233 15 2 3 55 true 56 57 58 59 236 15 237,oH z19 z19 (U 7) z4 194 60,oT [],oF [],oT [vS z33 242,vS z30 243],oT [],oG z20 z20 (U 8),oC z20 239 z20 240 241 17 2 3 62 true 63 64 65 66 244 17 245,oH z20 z20 (U 8) z4 194 67,oT [],oF [],oG z21 z21 (U 9),fun _=>Obj.mk (vT y1) none (.fields #[vS z21 247,vS z21 248,vS z1 249,vI 19 0,vI 2 0,vI 0 0,vI 0 0,vI 3 0,vR 69,vB true,vI 181 0,vR 70,vN,vN,vN,vR 71,vI 250 0,vI 19 0,vS z1 251]) #[],oH z21 z21 (U 9) z4 194 72,oT [],oF [],oG z22 z22 (U 10),fun _=>Obj.mk (vT y1) none (.fields #[vS z22 253,vS z22 254,vS z1 255,vI 22 0,vI 3 0,vI 0 0,vI 0 0,vI 3 0,vR 74,vB true,vI 181 0,vR 75,vN,vN,vN,vR 76,vI 256 0,vI 22 0,vS z1 257]) #[],oH z22 z22 (U 10) z4 194 77,oT [],oF [],oG z23 z23 (U 11),fun _=>Obj.mk (vT y1) none (.fields #[vS z23 259,vS z23 260,vS z1 261,vI 28 0,vI 1 0,vI 0 0,vI 0 0,vI 3 0,vR 79,vB true,vI 181 0,vR 80,vN,vN,vN,vR 81,vI 262 0,vI 28 0,vS z1 263]) #[],oH z23 z23 (U 11) z4 194 82,oT [],oF [],oT [vS z34 268,vS z35 269,vS z36 270,vS z37 271,vS z38 272],oT [],oG z24 z24 (U 12),oC z24 265 z24 266 267 30 2 3 84 true 85 86 87 88 273 30 274,oH z24 z24 (U 12) z4 194 89,oT [],oF [],oG z25 z25 (U 13),fun _=>Obj.mk (vT y1) none (.fields #[vS z25 276,vS z25 277,vS z1 278,vI 39 0,vI 2 0,vI 0 0,vI 0 0,vI 3 0,vR 91,vB true,vI 181 0,vR 92,vN,vN,vN,vR 93,vI 279 0,vI 39 0,vS z1 280]) #[],oH z25 z25 (U 13) z4 194 94]
noncomputable def t1 (P:Params):BT:=bt P 10 l1
noncomputable def l2:List (Params->Obj):=((l1.set 3 (fun P=>Obj.mk (vT y3) none (.dict #[dE (kH P z3) (vS z3 165) (vS z39 298),dE (kH P z5) (vS z5 166) vN,dE (kH P z6) (vS z6 167) vN,dE (kH P z7) (vS z7 168) (vU y4),dE (kH P z8) (vS z8 169) vN,dE (kH P z9) (vS z9 170) (vR 6),dE (kH P z10) (vS z10 171) (vR 4),dE (kH P z11) (vS z11 173) (vS z1 172),dE (kH P z12) (vS z12 174) vN,dE (kH P z13) (vS z13 193) (vR 21),dE (kH P z14) (vS z14 202) (vR 28),dE (kH P z15) (vS z15 209) (vR 35),dE (kH P z16) (vS z16 217) (vR 42),dE (kH P z17) (vS z17 224) (vR 49),dE (kH P z18) (vS z18 230) (vR 54),dE (kH P z19) (vS z19 238) (vR 61),dE (kH P z20) (vS z20 246) (vR 68),dE (kH P z21) (vS z21 252) (vR 73),dE (kH P z22) (vS z22 258) (vR 78),dE (kH P z23) (vS z23 264) (vR 83),dE (kH P z24) (vS z24 275) (vR 90),dE (kH P z25) (vS z25 281) (vR 95),dE (kH P z40) (vS z40 289) (vR 102),dE (kH P z41) (vS z41 297) (vR 109),dE (kH P z42) (vS z42 305) (vR 114),dE (kH P z43) (vS z43 314) (vR 121),dE (kH P z44) (vS z44 320) (vR 126),dE (kH P z45) (vS z45 340) (vR 136)] 28) #[])).set 12 (oF [vI 1 0,vI 0 0,vR 20,vI 5 0,vI 0 0,vR 27,vI 7 0,vI 0 0,vR 34,vI 9 0,vI 0 0,vR 41,vI 11 0,vI 0 0,vR 48,vI 13 0,vI 0 0,vR 53,vI 15 0,vI 0 0,vR 60,vI 17 0,vI 0 0,vR 67,vI 19 0,vI 0 0,vR 72,vI 22 0,vI 0 0,vR 77,vI 28 0,vI 0 0,vR 82,vI 30 0,vI 0 0,vR 89,vI 39 0,vI 0 0,vR 94,vI 50 0,vI 0 0,vR 101,vI 52 0,vI 0 0,vR 108,vI 57 0,vI 0 0,vR 113,vI 59 0,vI 0 0,vR 120,vI 64 0,vI 0 0,vR 125,vI 70 0,vI 0 0,vR 132]))++[oT [],oF [],oT [vS z29 285,vS z46 286],oT [],oG z40 z40 (U 14),oC z40 282 z40 283 284 50 2 3 96 true 97 98 99 100 287 50 288,oH z40 z40 (U 14) z4 194 101,oT [],oF [],oT [vS z29 293,vS z46 294],oT [],oG z41 z41 (U 15),oC z41 290 z41 291 292 52 2 3 103 true 104 105 106 107 295 52 296,oH z41 z41 (U 15) z4 194 108,oT [],oF [],oG z42 z42 (U 17),fun _=>Obj.mk (vT y1) none (.fields #[vS z42 300,vS z42 301,vS z1 302,vI 57 0,vI 1 0,vI 0 0,vI 0 0,vI 3 0,vR 110,vB true,vI 181 0,vR 111,vN,vN,vN,vR 112,vI 303 0,vI 57 0,vS z1 304]) #[],oH z42 z42 (U 17) z39 298 113,oT [],oF [],oT [vS z47 309,vS z48 310,vS z46 311],oT [],oG z43 z43 (U 18),oC z43 306 z43 307 308 59 1 3 115 true 116 117 118 119 312 59 313,oH z43 z43 (U 18) z39 298 120,oT [],oF [],oG z44 z44 (U 19),fun _=>Obj.mk (vT y1) none (.fields #[vS z44 315,vS z44 316,vS z1 317,vI 64 0,vI 3 0,vI 0 0,vI 0 0,vI 3 0,vR 122,vB true,vI 181 0,vR 123,vN,vN,vN,vR 124,vI 318 0,vI 64 0,vS z1 319]) #[],oH z44 z44 (U 19) z39 298 125,oT [],fun _=>Obj.mk (vT y6) none (.fields #[vU y7,vT y8]) #[],fun P=>Obj.mk (vT y3) none (.dict #[dE (kH P z49) (vS z49 328) (vS z39 298),dE (kH P z50) (vS z50 330) (vS z45 329),dE (kH P z51) (vS z51 332) (vI 70 331),dE (kH P z52) (vS z52 333) (vR 134)] 4) #[],oT [],oF [],fun _=>Obj.mk (vT y1) none (.fields #[vS z45 323,vS z45 324,vS z1 325,vI 70 0,vI 0 0,vI 0 0,vI 0 0,vI 0 0,vR 130,vB false,vI 181 0,vR 131,vN,vN,vN,vN,vI 326 0,vI 70 0,vS z1 327]) #[],fun _=>Obj.mk (vT y2) none .plain #[some (vR 132),some (vR 3),some (vR 129),none,some (vS z39 298),none,some (vR 0)],oT [],fun P=>Obj.mk (vT y3) none (.dict #[dE (kH P z49) (vS z49 328) (vS z39 298),dE (kH P z51) (vS z51 332) (vI 70 331),dE (kH P z52) (vS z52 333) (vR 134),dE (kH P z53) (vS z53 335) (vR 137),dE (kH P z54) (vS z54 337) (vR 138),dE (kH P z5) (vS z5 338) vN] 4) #[],fun _=>Obj.mk (vT y8) none (.cls (ClassData.mk z45 [vT y9] [vR 136,vT y9] 135 z45 true [] [] false none false)) #[none,none,some (vS z45 321),some (vS z45 329),some (vU y10),some (vB true)],fun _=>Obj.mk (vT y11) none (.fields #[vS z53 334,vR 136,vU y12,vU y13]) #[],fun _=>Obj.mk (vT y11) none (.fields #[vS z54 336,vR 136,vU y14,vN]) #[],fun _=>Obj.mk (vT y15) none (.fields #[vR 136,vR 136,vR 136]) #[],fun _=>Obj.mk (vT y6) none (.fields #[vU y16,vR 136]) #[]]
noncomputable def t2 (P:Params):BT:=bt P 10 l2
noncomputable def l3:List (Params->Obj):=(((l2.set 3 (fun P=>Obj.mk (vT y3) none (.dict #[dE (kH P z3) (vS z3 165) (vS z39 298),dE (kH P z5) (vS z5 166) vN,dE (kH P z6) (vS z6 167) vN,dE (kH P z7) (vS z7 168) (vU y4),dE (kH P z8) (vS z8 169) vN,dE (kH P z9) (vS z9 170) (vR 6),dE (kH P z10) (vS z10 171) (vR 4),dE (kH P z11) (vS z11 173) (vS z1 172),dE (kH P z12) (vS z12 174) vN,dE (kH P z13) (vS z13 193) (vR 21),dE (kH P z14) (vS z14 202) (vR 28),dE (kH P z15) (vS z15 209) (vR 35),dE (kH P z16) (vS z16 217) (vR 42),dE (kH P z17) (vS z17 224) (vR 49),dE (kH P z18) (vS z18 230) (vR 54),dE (kH P z19) (vS z19 238) (vR 61),dE (kH P z20) (vS z20 246) (vR 68),dE (kH P z21) (vS z21 252) (vR 73),dE (kH P z22) (vS z22 258) (vR 78),dE (kH P z23) (vS z23 264) (vR 83),dE (kH P z24) (vS z24 275) (vR 90),dE (kH P z25) (vS z25 281) (vR 95),dE (kH P z40) (vS z40 289) (vR 102),dE (kH P z41) (vS z41 297) (vR 109),dE (kH P z42) (vS z42 305) (vR 114),dE (kH P z43) (vS z43 314) (vR 121),dE (kH P z44) (vS z44 320) (vR 126),dE (kH P z45) (vS z45 340) (vR 136),dE (kH P z55) (vS z55 384) (vR 171)] 29) #[])).set 12 (oF [vI 1 0,vI 0 0,vR 20,vI 5 0,vI 0 0,vR 27,vI 7 0,vI 0 0,vR 34,vI 9 0,vI 0 0,vR 41,vI 11 0,vI 0 0,vR 48,vI 13 0,vI 0 0,vR 53,vI 15 0,vI 0 0,vR 60,vI 17 0,vI 0 0,vR 67,vI 19 0,vI 0 0,vR 72,vI 22 0,vI 0 0,vR 77,vI 28 0,vI 0 0,vR 82,vI 30 0,vI 0 0,vR 89,vI 39 0,vI 0 0,vR 94,vI 50 0,vI 0 0,vR 101,vI 52 0,vI 0 0,vR 108,vI 57 0,vI 0 0,vR 113,vI 59 0,vI 0 0,vR 120,vI 64 0,vI 0 0,vR 125,vI 70 0,vI 0 0,vR 132,vI 72 0,vI 0 0,vR 146])).set 136 (fun _=>Obj.mk (vT y8) none (.cls (ClassData.mk z45 [vT y9] [vR 136,vT y9] 135 z45 true [] [vR 171] false none false)) #[none,none,some (vS z45 321),some (vS z45 329),some (vU y10),some (vB true)]))++[oT [vR 136],fun _=>Obj.mk (vT y6) none (.fields #[vU y7,vT y8]) #[],fun P=>Obj.mk (vT y3) none (.dict #[dE (kH P z49) (vS z49 348) (vS z39 298),dE (kH P z50) (vS z50 350) (vS z55 349),dE (kH P z51) (vS z51 352) (vI 72 351),dE (kH P z56) (vS z56 360) (vR 154),dE (kH P z57) (vS z57 371) (vR 161),dE (kH P z58) (vS z58 379) (vR 168),dE (kH P z52) (vS z52 381) (vR 169)] 7) #[],oT [],oF [vI 74 0,vI 4 0,vR 153,vI 77 0,vI 4 0,vR 160,vI 88 0,vI 4 0,vR 167],fun _=>Obj.mk (vT y1) none (.fields #[vS z55 343,vS z55 344,vS z1 345,vI 72 0,vI 0 0,vI 0 0,vI 0 0,vI 0 0,vR 144,vB false,vI 181 0,vR 145,vN,vN,vN,vN,vI 346 0,vI 72 0,vS z1 347]) #[],fun _=>Obj.mk (vT y2) none .plain #[some (vR 146),some (vR 3),some (vR 143),none,some (vS z39 298),none,some (vR 0)],oT [],oF [],oT [vS z59 356,vS z60 357],oT [],oG z56 z61 (M 21 0),oC z56 353 z61 354 355 74 2 3 148 true 149 150 151 152 358 74 359,oH z56 z61 (M 21 0) z39 298 153,oT [],oF [],oT [vS z59 364,vS z29 365,vS z62 366,vS z63 367,vS z64 368],oT [],oG z57 z65 (M 21 1),oC z57 361 z65 362 363 77 2 3 155 true 156 157 158 159 369 77 370,oH z57 z65 (M 21 1) z39 298 160,oT [],oF [],oT [vS z59 375,vS z29 376],oT [],oG z58 z66 (M 21 2),oC z58 372 z66 373 374 88 2 3 162 true 163 164 165 166 377 88 378,oH z58 z66 (M 21 2) z39 298 167,oT [vS z60 380],fun P=>Obj.mk (vT y3) none (.dict #[dE (kH P z49) (vS z49 348) (vS z39 298),dE (kH P z51) (vS z51 352) (vI 72 351),dE (kH P z56) (vS z56 360) (vR 154),dE (kH P z57) (vS z57 371) (vR 161),dE (kH P z58) (vS z58 379) (vR 168),dE (kH P z52) (vS z52 381) (vR 169),dE (kH P z5) (vS z5 382) vN] 2) #[],fun _=>Obj.mk (vT y8) none (.cls (ClassData.mk z55 [vR 136] [vR 171,vR 136,vT y9] 170 z55 true [] [] false none false)) #[some (vR 141),none,some (vS z55 341),some (vS z55 349),some (vU y10),some (vB true)],fun _=>Obj.mk (vT y15) none (.fields #[vR 171,vR 171,vR 171]) #[],fun _=>Obj.mk (vT y6) none (.fields #[vU y16,vR 171]) #[]]
noncomputable def t3 (P:Params):BT:=bt P 10 l3
noncomputable def l4:List (Params->Obj):=(((l3.set 3 (fun P=>Obj.mk (vT y3) none (.dict #[dE (kH P z3) (vS z3 165) (vS z39 298),dE (kH P z5) (vS z5 166) vN,dE (kH P z6) (vS z6 167) vN,dE (kH P z7) (vS z7 168) (vU y4),dE (kH P z8) (vS z8 169) vN,dE (kH P z9) (vS z9 170) (vR 6),dE (kH P z10) (vS z10 171) (vR 4),dE (kH P z11) (vS z11 173) (vS z1 172),dE (kH P z12) (vS z12 174) vN,dE (kH P z13) (vS z13 193) (vR 21),dE (kH P z14) (vS z14 202) (vR 28),dE (kH P z15) (vS z15 209) (vR 35),dE (kH P z16) (vS z16 217) (vR 42),dE (kH P z17) (vS z17 224) (vR 49),dE (kH P z18) (vS z18 230) (vR 54),dE (kH P z19) (vS z19 238) (vR 61),dE (kH P z20) (vS z20 246) (vR 68),dE (kH P z21) (vS z21 252) (vR 73),dE (kH P z22) (vS z22 258) (vR 78),dE (kH P z23) (vS z23 264) (vR 83),dE (kH P z24) (vS z24 275) (vR 90),dE (kH P z25) (vS z25 281) (vR 95),dE (kH P z40) (vS z40 289) (vR 102),dE (kH P z41) (vS z41 297) (vR 109),dE (kH P z42) (vS z42 305) (vR 114),dE (kH P z43) (vS z43 314) (vR 121),dE (kH P z44) (vS z44 320) (vR 126),dE (kH P z45) (vS z45 340) (vR 136),dE (kH P z55) (vS z55 384) (vR 171),dE (kH P z67) (vS z67 417) (vR 197)] 30) #[])).set 12 (oF [vI 1 0,vI 0 0,vR 20,vI 5 0,vI 0 0,vR 27,vI 7 0,vI 0 0,vR 34,vI 9 0,vI 0 0,vR 41,vI 11 0,vI 0 0,vR 48,vI 13 0,vI 0 0,vR 53,vI 15 0,vI 0 0,vR 60,vI 17 0,vI 0 0,vR 67,vI 19 0,vI 0 0,vR 72,vI 22 0,vI 0 0,vR 77,vI 28 0,vI 0 0,vR 82,vI 30 0,vI 0 0,vR 89,vI 39 0,vI 0 0,vR 94,vI 50 0,vI 0 0,vR 101,vI 52 0,vI 0 0,vR 108,vI 57 0,vI 0 0,vR 113,vI 59 0,vI 0 0,vR 120,vI 64 0,vI 0 0,vR 125,vI 70 0,vI 0 0,vR 132,vI 72 0,vI 0 0,vR 146,vI 90 0,vI 0 0,vR 179])).set 136 (fun _=>Obj.mk (vT y8) none (.cls (ClassData.mk z45 [vT y9] [vR 136,vT y9] 135 z45 true [] [vR 171,vR 197] false none false)) #[none,none,some (vS z45 321),some (vS z45 329),some (vU y10),some (vB true)]))++[oT [vR 136],fun _=>Obj.mk (vT y6) none (.fields #[vU y7,vT y8]) #[],fun P=>Obj.mk (vT y3) none (.dict #[dE (kH P z49) (vS z49 392) (vS z39 298),dE (kH P z50) (vS z50 394) (vS z67 393),dE (kH P z51) (vS z51 396) (vI 90 395),dE (kH P z56) (vS z56 404) (vR 187),dE (kH P z57) (vS z57 412) (vR 194),dE (kH P z52) (vS z52 414) (vR 195)] 6) #[],oT [],oF [vI 92 0,vI 4 0,vR 186,vI 95 0,vI 4 0,vR 193],fun _=>Obj.mk (vT y1) none (.fields #[vS z67 387,vS z67 388,vS z1 389,vI 90 0,vI 0 0,vI 0 0,vI 0 0,vI 0 0,vR 177,vB false,vI 181 0,vR 178,vN,vN,vN,vN,vI 390 0,vI 90 0,vS z1 391]) #[],fun _=>Obj.mk (vT y2) none .plain #[some (vR 179),some (vR 3),some (vR 176),none,some (vS z39 298),none,some (vR 0)],oT [],oF [],oT [vS z59 400,vS z68 401],oT [],oG z56 z69 (M 22 0),oC z56 397 z69 398 399 92 2 3 181 true 182 183 184 185 402 92 403,oH z56 z69 (M 22 0) z39 298 186,oT [],oF [],oT [vS z59 408,vS z29 409],oT [],oG z57 z70 (M 22 1),oC z57 405 z70 406 407 95 2 3 188 true 189 190 191 192 410 95 411,oH z57 z70 (M 22 1) z39 298 193,oT [vS z68 413],fun P=>Obj.mk (vT y3) none (.dict #[dE (kH P z49) (vS z49 392) (vS z39 298),dE (kH P z51) (vS z51 396) (vI 90 395),dE (kH P z56) (vS z56 404) (vR 187),dE (kH P z57) (vS z57 412) (vR 194),dE (kH P z52) (vS z52 414) (vR 195),dE (kH P z5) (vS z5 415) vN] 2) #[],fun _=>Obj.mk (vT y8) none (.cls (ClassData.mk z67 [vR 136] [vR 197,vR 136,vT y9] 196 z67 true [] [] false none false)) #[some (vR 174),none,some (vS z67 385),some (vS z67 393),some (vU y10),some (vB true)],fun _=>Obj.mk (vT y15) none (.fields #[vR 197,vR 197,vR 197]) #[],fun _=>Obj.mk (vT y6) none (.fields #[vU y16,vR 197]) #[]]
noncomputable def t4 (P:Params):BT:=bt P 10 l4
noncomputable def l5:List (Params->Obj):=(((l4.set 3 (fun P=>Obj.mk (vT y3) none (.dict #[dE (kH P z3) (vS z3 165) (vS z39 298),dE (kH P z5) (vS z5 166) vN,dE (kH P z6) (vS z6 167) vN,dE (kH P z7) (vS z7 168) (vU y4),dE (kH P z8) (vS z8 169) vN,dE (kH P z9) (vS z9 170) (vR 6),dE (kH P z10) (vS z10 171) (vR 4),dE (kH P z11) (vS z11 173) (vS z1 172),dE (kH P z12) (vS z12 174) vN,dE (kH P z13) (vS z13 193) (vR 21),dE (kH P z14) (vS z14 202) (vR 28),dE (kH P z15) (vS z15 209) (vR 35),dE (kH P z16) (vS z16 217) (vR 42),dE (kH P z17) (vS z17 224) (vR 49),dE (kH P z18) (vS z18 230) (vR 54),dE (kH P z19) (vS z19 238) (vR 61),dE (kH P z20) (vS z20 246) (vR 68),dE (kH P z21) (vS z21 252) (vR 73),dE (kH P z22) (vS z22 258) (vR 78),dE (kH P z23) (vS z23 264) (vR 83),dE (kH P z24) (vS z24 275) (vR 90),dE (kH P z25) (vS z25 281) (vR 95),dE (kH P z40) (vS z40 289) (vR 102),dE (kH P z41) (vS z41 297) (vR 109),dE (kH P z42) (vS z42 305) (vR 114),dE (kH P z43) (vS z43 314) (vR 121),dE (kH P z44) (vS z44 320) (vR 126),dE (kH P z45) (vS z45 340) (vR 136),dE (kH P z55) (vS z55 384) (vR 171),dE (kH P z67) (vS z67 417) (vR 197),dE (kH P z71) (vS z71 452) (vR 223)] 31) #[])).set 12 (oF [vI 1 0,vI 0 0,vR 20,vI 5 0,vI 0 0,vR 27,vI 7 0,vI 0 0,vR 34,vI 9 0,vI 0 0,vR 41,vI 11 0,vI 0 0,vR 48,vI 13 0,vI 0 0,vR 53,vI 15 0,vI 0 0,vR 60,vI 17 0,vI 0 0,vR 67,vI 19 0,vI 0 0,vR 72,vI 22 0,vI 0 0,vR 77,vI 28 0,vI 0 0,vR 82,vI 30 0,vI 0 0,vR 89,vI 39 0,vI 0 0,vR 94,vI 50 0,vI 0 0,vR 101,vI 52 0,vI 0 0,vR 108,vI 57 0,vI 0 0,vR 113,vI 59 0,vI 0 0,vR 120,vI 64 0,vI 0 0,vR 125,vI 70 0,vI 0 0,vR 132,vI 72 0,vI 0 0,vR 146,vI 90 0,vI 0 0,vR 179,vI 99 0,vI 0 0,vR 205])).set 136 (fun _=>Obj.mk (vT y8) none (.cls (ClassData.mk z45 [vT y9] [vR 136,vT y9] 135 z45 true [] [vR 171,vR 197,vR 223] false none false)) #[none,none,some (vS z45 321),some (vS z45 329),some (vU y10),some (vB true)]))++[oT [vR 136],fun _=>Obj.mk (vT y6) none (.fields #[vU y7,vT y8]) #[],fun P=>Obj.mk (vT y3) none (.dict #[dE (kH P z49) (vS z49 425) (vS z39 298),dE (kH P z50) (vS z50 427) (vS z71 426),dE (kH P z51) (vS z51 429) (vI 99 428),dE (kH P z56) (vS z56 438) (vR 213),dE (kH P z57) (vS z57 446) (vR 220),dE (kH P z52) (vS z52 449) (vR 221)] 6) #[],oT [],oF [vI 101 0,vI 4 0,vR 212,vI 105 0,vI 4 0,vR 219],fun _=>Obj.mk (vT y1) none (.fields #[vS z71 420,vS z71 421,vS z1 422,vI 99 0,vI 0 0,vI 0 0,vI 0 0,vI 0 0,vR 203,vB false,vI 181 0,vR 204,vN,vN,vN,vN,vI 423 0,vI 99 0,vS z1 424]) #[],fun _=>Obj.mk (vT y2) none .plain #[some (vR 205),some (vR 3),some (vR 202),none,some (vS z39 298),none,some (vR 0)],oT [],oF [],oT [vS z59 433,vS z30 434,vS z72 435],oT [],oG z56 z73 (M 23 0),oC z56 430 z73 431 432 101 3 3 207 true 208 209 210 211 436 101 437,oH z56 z73 (M 23 0) z39 298 212,oT [],oF [],oT [vS z59 442,vS z29 443],oT [],oG z57 z74 (M 23 1),oC z57 439 z74 440 441 105 2 3 214 true 215 216 217 218 444 105 445,oH z57 z74 (M 23 1) z39 298 219,oT [vS z72 447,vS z30 448],fun P=>Obj.mk (vT y3) none (.dict #[dE (kH P z49) (vS z49 425) (vS z39 298),dE (kH P z51) (vS z51 429) (vI 99 428),dE (kH P z56) (vS z56 438) (vR 213),dE (kH P z57) (vS z57 446) (vR 220),dE (kH P z52) (vS z52 449) (vR 221),dE (kH P z5) (vS z5 450) vN] 2) #[],fun _=>Obj.mk (vT y8) none (.cls (ClassData.mk z71 [vR 136] [vR 223,vR 136,vT y9] 222 z71 true [] [] false none false)) #[some (vR 200),none,some (vS z71 418),some (vS z71 426),some (vU y10),some (vB true)],fun _=>Obj.mk (vT y15) none (.fields #[vR 223,vR 223,vR 223]) #[],fun _=>Obj.mk (vT y6) none (.fields #[vU y16,vR 223]) #[]]
noncomputable def t5 (P:Params):BT:=bt P 10 l5
noncomputable def l6:List (Params->Obj):=(((l5.set 3 (fun P=>Obj.mk (vT y3) none (.dict #[dE (kH P z3) (vS z3 165) (vS z75 484),dE (kH P z5) (vS z5 166) vN,dE (kH P z6) (vS z6 167) vN,dE (kH P z7) (vS z7 168) (vU y4),dE (kH P z8) (vS z8 169) vN,dE (kH P z9) (vS z9 170) (vR 6),dE (kH P z10) (vS z10 171) (vR 4),dE (kH P z11) (vS z11 173) (vS z1 172),dE (kH P z12) (vS z12 174) vN,dE (kH P z13) (vS z13 193) (vR 21),dE (kH P z14) (vS z14 202) (vR 28),dE (kH P z15) (vS z15 209) (vR 35),dE (kH P z16) (vS z16 217) (vR 42),dE (kH P z17) (vS z17 224) (vR 49),dE (kH P z18) (vS z18 230) (vR 54),dE (kH P z19) (vS z19 238) (vR 61),dE (kH P z20) (vS z20 246) (vR 68),dE (kH P z21) (vS z21 252) (vR 73),dE (kH P z22) (vS z22 258) (vR 78),dE (kH P z23) (vS z23 264) (vR 83),dE (kH P z24) (vS z24 275) (vR 90),dE (kH P z25) (vS z25 281) (vR 95),dE (kH P z40) (vS z40 289) (vR 102),dE (kH P z41) (vS z41 297) (vR 109),dE (kH P z42) (vS z42 305) (vR 114),dE (kH P z43) (vS z43 314) (vR 121),dE (kH P z44) (vS z44 320) (vR 126),dE (kH P z45) (vS z45 340) (vR 136),dE (kH P z55) (vS z55 384) (vR 171),dE (kH P z67) (vS z67 417) (vR 197),dE (kH P z71) (vS z71 452) (vR 223),dE (kH P z76) (vS z76 483) (vR 247)] 32) #[])).set 12 (oF [vI 1 0,vI 0 0,vR 20,vI 5 0,vI 0 0,vR 27,vI 7 0,vI 0 0,vR 34,vI 9 0,vI 0 0,vR 41,vI 11 0,vI 0 0,vR 48,vI 13 0,vI 0 0,vR 53,vI 15 0,vI 0 0,vR 60,vI 17 0,vI 0 0,vR 67,vI 19 0,vI 0 0,vR 72,vI 22 0,vI 0 0,vR 77,vI 28 0,vI 0 0,vR 82,vI 30 0,vI 0 0,vR 89,vI 39 0,vI 0 0,vR 94,vI 50 0,vI 0 0,vR 101,vI 52 0,vI 0 0,vR 108,vI 57 0,vI 0 0,vR 113,vI 59 0,vI 0 0,vR 120,vI 64 0,vI 0 0,vR 125,vI 70 0,vI 0 0,vR 132,vI 72 0,vI 0 0,vR 146,vI 90 0,vI 0 0,vR 179,vI 99 0,vI 0 0,vR 205,vI 107 0,vI 0 0,vR 231])).set 136 (fun _=>Obj.mk (vT y8) none (.cls (ClassData.mk z45 [vT y9] [vR 136,vT y9] 135 z45 true [] [vR 171,vR 197,vR 223,vR 247] false none false)) #[none,none,some (vS z45 321),some (vS z45 329),some (vU y10),some (vB true)]))++[oT [vR 136],fun _=>Obj.mk (vT y6) none (.fields #[vU y7,vT y8]) #[],fun P=>Obj.mk (vT y3) none (.dict #[dE (kH P z49) (vS z49 460) (vS z39 298),dE (kH P z50) (vS z50 462) (vS z76 461),dE (kH P z51) (vS z51 464) (vI 107 463),dE (kH P z56) (vS z56 472) (vR 239),dE (kH P z57) (vS z57 478) (vR 244),dE (kH P z52) (vS z52 480) (vR 245)] 6) #[],oT [],oF [vI 109 0,vI 4 0,vR 238,vI 112 0,vI 4 0,vR 243],fun _=>Obj.mk (vT y1) none (.fields #[vS z76 455,vS z76 456,vS z1 457,vI 107 0,vI 0 0,vI 0 0,vI 0 0,vI 0 0,vR 229,vB false,vI 181 0,vR 230,vN,vN,vN,vN,vI 458 0,vI 107 0,vS z1 459]) #[],fun _=>Obj.mk (vT y2) none .plain #[some (vR 231),some (vR 3),some (vR 228),none,some (vS z39 298),none,some (vR 0)],oT [],oF [],oT [vS z59 468,vS z77 469],oT [],oG z56 z78 (M 24 0),oC z56 465 z78 466 467 109 2 3 233 true 234 235 236 237 470 109 471,oH z56 z78 (M 24 0) z39 298 238,oT [],oF [],oG z57 z79 (M 24 1),fun _=>Obj.mk (vT y1) none (.fields #[vS z57 473,vS z79 474,vS z1 475,vI 112 0,vI 2 0,vI 0 0,vI 0 0,vI 3 0,vR 240,vB true,vI 181 0,vR 241,vN,vN,vN,vR 242,vI 476 0,vI 112 0,vS z1 477]) #[],oH z57 z79 (M 24 1) z39 298 243,oT [vS z77 479],fun P=>Obj.mk (vT y3) none (.dict #[dE (kH P z49) (vS z49 460) (vS z39 298),dE (kH P z51) (vS z51 464) (vI 107 463),dE (kH P z56) (vS z56 472) (vR 239),dE (kH P z57) (vS z57 478) (vR 244),dE (kH P z52) (vS z52 480) (vR 245),dE (kH P z5) (vS z5 481) vN] 2) #[],fun _=>Obj.mk (vT y8) none (.cls (ClassData.mk z76 [vR 136] [vR 247,vR 136,vT y9] 246 z76 true [] [] false none false)) #[some (vR 226),none,some (vS z76 453),some (vS z76 461),some (vU y10),some (vB true)],fun _=>Obj.mk (vT y15) none (.fields #[vR 247,vR 247,vR 247]) #[],fun _=>Obj.mk (vT y6) none (.fields #[vU y16,vR 247]) #[]]
noncomputable def t6 (P:Params):BT:=bt P 10 l6
noncomputable def l7:List (Params->Obj):=((l6.set 3 (fun P=>Obj.mk (vT y3) none (.dict #[dE (kH P z3) (vS z3 165) (vS z75 484),dE (kH P z5) (vS z5 166) vN,dE (kH P z6) (vS z6 167) vN,dE (kH P z7) (vS z7 168) (vU y4),dE (kH P z8) (vS z8 169) vN,dE (kH P z9) (vS z9 170) (vR 6),dE (kH P z10) (vS z10 171) (vR 4),dE (kH P z11) (vS z11 173) (vS z1 172),dE (kH P z12) (vS z12 174) vN,dE (kH P z13) (vS z13 193) (vR 21),dE (kH P z14) (vS z14 202) (vR 28),dE (kH P z15) (vS z15 209) (vR 35),dE (kH P z16) (vS z16 217) (vR 42),dE (kH P z17) (vS z17 224) (vR 49),dE (kH P z18) (vS z18 230) (vR 54),dE (kH P z19) (vS z19 238) (vR 61),dE (kH P z20) (vS z20 246) (vR 68),dE (kH P z21) (vS z21 252) (vR 73),dE (kH P z22) (vS z22 258) (vR 78),dE (kH P z23) (vS z23 264) (vR 83),dE (kH P z24) (vS z24 275) (vR 90),dE (kH P z25) (vS z25 281) (vR 95),dE (kH P z40) (vS z40 289) (vR 102),dE (kH P z41) (vS z41 297) (vR 109),dE (kH P z42) (vS z42 305) (vR 114),dE (kH P z43) (vS z43 314) (vR 121),dE (kH P z44) (vS z44 320) (vR 126),dE (kH P z45) (vS z45 340) (vR 136),dE (kH P z55) (vS z55 384) (vR 171),dE (kH P z67) (vS z67 417) (vR 197),dE (kH P z71) (vS z71 452) (vR 223),dE (kH P z76) (vS z76 483) (vR 247),dE (kH P z80) (vS z80 503) (vR 259),dE (kH P z81) (vS z81 519) (vR 272)] 34) #[])).set 12 (oF [vI 1 0,vI 0 0,vR 20,vI 5 0,vI 0 0,vR 27,vI 7 0,vI 0 0,vR 34,vI 9 0,vI 0 0,vR 41,vI 11 0,vI 0 0,vR 48,vI 13 0,vI 0 0,vR 53,vI 15 0,vI 0 0,vR 60,vI 17 0,vI 0 0,vR 67,vI 19 0,vI 0 0,vR 72,vI 22 0,vI 0 0,vR 77,vI 28 0,vI 0 0,vR 82,vI 30 0,vI 0 0,vR 89,vI 39 0,vI 0 0,vR 94,vI 50 0,vI 0 0,vR 101,vI 52 0,vI 0 0,vR 108,vI 57 0,vI 0 0,vR 113,vI 59 0,vI 0 0,vR 120,vI 64 0,vI 0 0,vR 125,vI 70 0,vI 0 0,vR 132,vI 72 0,vI 0 0,vR 146,vI 90 0,vI 0 0,vR 179,vI 99 0,vI 0 0,vR 205,vI 107 0,vI 0 0,vR 231,vI 121 0,vI 0 0,vR 255,vI 123 0,vI 0 0,vR 268]))++[oT [vT y17],fun _=>Obj.mk (vT y6) none (.fields #[vU y7,vT y8]) #[],fun P=>Obj.mk (vT y3) none (.dict #[dE (kH P z49) (vS z49 493) (vS z75 484),dE (kH P z50) (vS z50 495) (vS z80 494),dE (kH P z51) (vS z51 497) (vI 121 496),dE (kH P z52) (vS z52 498) (vR 257)] 4) #[],oT [],oF [],fun _=>Obj.mk (vT y1) none (.fields #[vS z80 488,vS z80 489,vS z1 490,vI 121 0,vI 0 0,vI 0 0,vI 0 0,vI 0 0,vR 253,vB false,vI 181 0,vR 254,vN,vN,vN,vN,vI 491 0,vI 121 0,vS z1 492]) #[],fun _=>Obj.mk (vT y2) none .plain #[some (vR 255),some (vR 3),some (vR 252),none,some (vS z75 484),none,some (vR 0)],oT [],fun P=>Obj.mk (vT y3) none (.dict #[dE (kH P z49) (vS z49 493) (vS z75 484),dE (kH P z51) (vS z51 497) (vI 121 496),dE (kH P z52) (vS z52 498) (vR 257),dE (kH P z54) (vS z54 500) (vR 260),dE (kH P z5) (vS z5 501) vN] 3) #[],fun _=>Obj.mk (vT y8) none (.cls (ClassData.mk z80 [vT y17] [vR 259,vT y17,vT y18,vT y19,vT y9] 258 z80 true [] [vR 272] false none false)) #[some (vR 250),none,some (vS z80 486),some (vS z80 494),some (vU y20),some (vB true)],fun _=>Obj.mk (vT y11) none (.fields #[vS z54 499,vR 259,vU y14,vN]) #[],fun _=>Obj.mk (vT y15) none (.fields #[vR 259,vR 259,vR 259]) #[],fun _=>Obj.mk (vT y6) none (.fields #[vU y16,vR 259]) #[],oT [vR 259],fun _=>Obj.mk (vT y6) none (.fields #[vU y7,vT y8]) #[],fun P=>Obj.mk (vT y3) none (.dict #[dE (kH P z49) (vS z49 511) (vS z75 484),dE (kH P z50) (vS z50 513) (vS z81 512),dE (kH P z51) (vS z51 515) (vI 123 514),dE (kH P z52) (vS z52 516) (vR 270)] 4) #[],oT [],oF [],fun _=>Obj.mk (vT y1) none (.fields #[vS z81 506,vS z81 507,vS z1 508,vI 123 0,vI 0 0,vI 0 0,vI 0 0,vI 0 0,vR 266,vB false,vI 181 0,vR 267,vN,vN,vN,vN,vI 509 0,vI 123 0,vS z1 510]) #[],fun _=>Obj.mk (vT y2) none .plain #[some (vR 268),some (vR 3),some (vR 265),none,some (vS z75 484),none,some (vR 0)],oT [],fun P=>Obj.mk (vT y3) none (.dict #[dE (kH P z49) (vS z49 511) (vS z75 484),dE (kH P z51) (vS z51 515) (vI 123 514),dE (kH P z52) (vS z52 516) (vR 270),dE (kH P z5) (vS z5 517) vN] 2) #[],fun _=>Obj.mk (vT y8) none (.cls (ClassData.mk z81 [vR 259] [vR 272,vR 259,vT y17,vT y18,vT y19,vT y9] 271 z81 true [] [] false none false)) #[some (vR 263),none,some (vS z81 504),some (vS z81 512),some (vU y20),some (vB true)],fun _=>Obj.mk (vT y15) none (.fields #[vR 272,vR 272,vR 272]) #[],fun _=>Obj.mk (vT y6) none (.fields #[vU y16,vR 272]) #[]]
noncomputable def t7 (P:Params):BT:=bt P 10 l7
noncomputable def l8:List (Params->Obj):=(((l7.set 3 (fun P=>Obj.mk (vT y3) none (.dict #[dE (kH P z3) (vS z3 165) (vS z82 536),dE (kH P z5) (vS z5 166) vN,dE (kH P z6) (vS z6 167) vN,dE (kH P z7) (vS z7 168) (vU y4),dE (kH P z8) (vS z8 169) vN,dE (kH P z9) (vS z9 170) (vR 6),dE (kH P z10) (vS z10 171) (vR 4),dE (kH P z11) (vS z11 173) (vS z1 172),dE (kH P z12) (vS z12 174) vN,dE (kH P z13) (vS z13 193) (vR 21),dE (kH P z14) (vS z14 202) (vR 28),dE (kH P z15) (vS z15 209) (vR 35),dE (kH P z16) (vS z16 217) (vR 42),dE (kH P z17) (vS z17 224) (vR 49),dE (kH P z18) (vS z18 230) (vR 54),dE (kH P z19) (vS z19 238) (vR 61),dE (kH P z20) (vS z20 246) (vR 68),dE (kH P z21) (vS z21 252) (vR 73),dE (kH P z22) (vS z22 258) (vR 78),dE (kH P z23) (vS z23 264) (vR 83),dE (kH P z24) (vS z24 275) (vR 90),dE (kH P z25) (vS z25 281) (vR 95),dE (kH P z40) (vS z40 289) (vR 102),dE (kH P z41) (vS z41 297) (vR 109),dE (kH P z42) (vS z42 305) (vR 114),dE (kH P z43) (vS z43 314) (vR 121),dE (kH P z44) (vS z44 320) (vR 126),dE (kH P z45) (vS z45 340) (vR 136),dE (kH P z55) (vS z55 384) (vR 171),dE (kH P z67) (vS z67 417) (vR 197),dE (kH P z71) (vS z71 452) (vR 223),dE (kH P z76) (vS z76 483) (vR 247),dE (kH P z80) (vS z80 503) (vR 259),dE (kH P z81) (vS z81 519) (vR 272),dE (kH P z83) (vS z83 535) (vR 284),dE (kH P z84) (vS z84 547) (vR 293),dE (kH P z85) (vS z85 553) (vR 298),dE (kH P z86) (vS z86 559) (vR 303),dE (kH P z87) (vS z87 573) (vR 310),dE (kH P z88) (vS z88 581) (vR 317)] 40) #[])).set 12 (oF [vI 1 0,vI 0 0,vR 20,vI 5 0,vI 0 0,vR 27,vI 7 0,vI 0 0,vR 34,vI 9 0,vI 0 0,vR 41,vI 11 0,vI 0 0,vR 48,vI 13 0,vI 0 0,vR 53,vI 15 0,vI 0 0,vR 60,vI 17 0,vI 0 0,vR 67,vI 19 0,vI 0 0,vR 72,vI 22 0,vI 0 0,vR 77,vI 28 0,vI 0 0,vR 82,vI 30 0,vI 0 0,vR 89,vI 39 0,vI 0 0,vR 94,vI 50 0,vI 0 0,vR 101,vI 52 0,vI 0 0,vR 108,vI 57 0,vI 0 0,vR 113,vI 59 0,vI 0 0,vR 120,vI 64 0,vI 0 0,vR 125,vI 70 0,vI 0 0,vR 132,vI 72 0,vI 0 0,vR 146,vI 90 0,vI 0 0,vR 179,vI 99 0,vI 0 0,vR 205,vI 107 0,vI 0 0,vR 231,vI 121 0,vI 0 0,vR 255,vI 123 0,vI 0 0,vR 268,vI 125 0,vI 0 0,vR 280,vI 128 0,vI 0 0,vR 292,vI 134 0,vI 0 0,vR 297,vI 136 0,vI 0 0,vR 302,vI 138 0,vI 0 0,vR 309,vI 152 0,vI 0 0,vR 316])).set 259 (fun _=>Obj.mk (vT y8) none (.cls (ClassData.mk z80 [vT y17] [vR 259,vT y17,vT y18,vT y19,vT y9] 258 z80 true [] [vR 272,vR 284] false none false)) #[some (vR 250),none,some (vS z80 486),some (vS z80 494),some (vU y20),some (vB true)]))++[oT [vR 259],fun _=>Obj.mk (vT y6) none (.fields #[vU y7,vT y8]) #[],fun P=>Obj.mk (vT y3) none (.dict #[dE (kH P z49) (vS z49 527) (vS z75 484),dE (kH P z50) (vS z50 529) (vS z83 528),dE (kH P z51) (vS z51 531) (vI 125 530),dE (kH P z52) (vS z52 532) (vR 282)] 4) #[],oT [],oF [],fun _=>Obj.mk (vT y1) none (.fields #[vS z83 522,vS z83 523,vS z1 524,vI 125 0,vI 0 0,vI 0 0,vI 0 0,vI 0 0,vR 278,vB false,vI 181 0,vR 279,vN,vN,vN,vN,vI 525 0,vI 125 0,vS z1 526]) #[],fun _=>Obj.mk (vT y2) none .plain #[some (vR 280),some (vR 3),some (vR 277),none,some (vS z75 484),none,some (vR 0)],oT [],fun P=>Obj.mk (vT y3) none (.dict #[dE (kH P z49) (vS z49 527) (vS z75 484),dE (kH P z51) (vS z51 531) (vI 125 530),dE (kH P z52) (vS z52 532) (vR 282),dE (kH P z5) (vS z5 533) vN] 2) #[],fun _=>Obj.mk (vT y8) none (.cls (ClassData.mk z83 [vR 259] [vR 284,vR 259,vT y17,vT y18,vT y19,vT y9] 283 z83 true [] [] false none false)) #[some (vR 275),none,some (vS z83 520),some (vS z83 528),some (vU y20),some (vB true)],fun _=>Obj.mk (vT y15) none (.fields #[vR 284,vR 284,vR 284]) #[],fun _=>Obj.mk (vT y6) none (.fields #[vU y16,vR 284]) #[],oT [],oF [],oT [vS z29 541,vS z35 542,vS z37 543,vS z33 544],oT [],oG z84 z84 (U 30),oC z84 538 z84 539 540 128 1 3 287 true 288 289 290 291 545 128 546,oH z84 z84 (U 30) z82 536 292,oT [],oF [],oG z85 z85 (U 31),fun _=>Obj.mk (vT y1) none (.fields #[vS z85 548,vS z85 549,vS z1 550,vI 134 0,vI 2 0,vI 0 0,vI 0 0,vI 3 0,vR 294,vB true,vI 181 0,vR 295,vN,vN,vN,vR 296,vI 551 0,vI 134 0,vS z1 552]) #[],oH z85 z85 (U 31) z82 536 297,oT [],oF [],oG z86 z86 (U 32),fun _=>Obj.mk (vT y1) none (.fields #[vS z86 554,vS z86 555,vS z1 556,vI 136 0,vI 2 0,vI 0 0,vI 0 0,vI 3 0,vR 299,vB true,vI 181 0,vR 300,vN,vN,vN,vR 301,vI 557 0,vI 136 0,vS z1 558]) #[],oH z86 z86 (U 32) z82 536 302,oT [],oF [],oT [vS z35 563,vS z34 564,vS z89 565,vS z47 566,vS z90 567,vS z37 568,vS z68 569,vS z38 570],oT [],oG z87 z87 (U 33),oC z87 560 z87 561 562 138 3 3 304 true 305 306 307 308 571 138 572,oH z87 z87 (U 33) z82 536 309,oT [],oF [],oT [vS z38 577,vS z46 578],oT [],oG z88 z88 (U 34),oC z88 574 z88 575 576 152 2 3 311 true 312 313 314 315 579 152 580,oH z88 z88 (U 34) z82 536 316]
noncomputable def t8 (P:Params):BT:=bt P 10 l8
noncomputable def l9:List (Params->Obj):=((l8.set 3 (fun P=>Obj.mk (vT y3) none (.dict #[dE (kH P z3) (vS z3 165) (vS z91 649),dE (kH P z5) (vS z5 166) vN,dE (kH P z6) (vS z6 167) vN,dE (kH P z7) (vS z7 168) (vU y4),dE (kH P z8) (vS z8 169) vN,dE (kH P z9) (vS z9 170) (vR 6),dE (kH P z10) (vS z10 171) (vR 4),dE (kH P z11) (vS z11 173) (vS z1 172),dE (kH P z12) (vS z12 174) vN,dE (kH P z13) (vS z13 193) (vR 21),dE (kH P z14) (vS z14 202) (vR 28),dE (kH P z15) (vS z15 209) (vR 35),dE (kH P z16) (vS z16 217) (vR 42),dE (kH P z17) (vS z17 224) (vR 49),dE (kH P z18) (vS z18 230) (vR 54),dE (kH P z19) (vS z19 238) (vR 61),dE (kH P z20) (vS z20 246) (vR 68),dE (kH P z21) (vS z21 252) (vR 73),dE (kH P z22) (vS z22 258) (vR 78),dE (kH P z23) (vS z23 264) (vR 83),dE (kH P z24) (vS z24 275) (vR 90),dE (kH P z25) (vS z25 281) (vR 95),dE (kH P z40) (vS z40 289) (vR 102),dE (kH P z41) (vS z41 297) (vR 109),dE (kH P z42) (vS z42 305) (vR 114),dE (kH P z43) (vS z43 314) (vR 121),dE (kH P z44) (vS z44 320) (vR 126),dE (kH P z45) (vS z45 340) (vR 136),dE (kH P z55) (vS z55 384) (vR 171),dE (kH P z67) (vS z67 417) (vR 197),dE (kH P z71) (vS z71 452) (vR 223),dE (kH P z76) (vS z76 483) (vR 247),dE (kH P z80) (vS z80 503) (vR 259),dE (kH P z81) (vS z81 519) (vR 272),dE (kH P z83) (vS z83 535) (vR 284),dE (kH P z84) (vS z84 547) (vR 293),dE (kH P z85) (vS z85 553) (vR 298),dE (kH P z86) (vS z86 559) (vR 303),dE (kH P z87) (vS z87 573) (vR 310),dE (kH P z88) (vS z88 581) (vR 317),dE (kH P z92) (vS z92 591) (vR 324),dE (kH P z93) (vS z93 599) (vR 331),dE (kH P z94) (vS z94 603) (vI 8 602),dE (kH P z95) (vS z95 605) (vI 14 604),dE (kH P z96) (vS z96 613) (vR 338),dE (kH P z97) (vS z97 648) (vR 360)] 46) #[])).set 12 (oF [vI 1 0,vI 0 0,vR 20,vI 5 0,vI 0 0,vR 27,vI 7 0,vI 0 0,vR 34,vI 9 0,vI 0 0,vR 41,vI 11 0,vI 0 0,vR 48,vI 13 0,vI 0 0,vR 53,vI 15 0,vI 0 0,vR 60,vI 17 0,vI 0 0,vR 67,vI 19 0,vI 0 0,vR 72,vI 22 0,vI 0 0,vR 77,vI 28 0,vI 0 0,vR 82,vI 30 0,vI 0 0,vR 89,vI 39 0,vI 0 0,vR 94,vI 50 0,vI 0 0,vR 101,vI 52 0,vI 0 0,vR 108,vI 57 0,vI 0 0,vR 113,vI 59 0,vI 0 0,vR 120,vI 64 0,vI 0 0,vR 125,vI 70 0,vI 0 0,vR 132,vI 72 0,vI 0 0,vR 146,vI 90 0,vI 0 0,vR 179,vI 99 0,vI 0 0,vR 205,vI 107 0,vI 0 0,vR 231,vI 121 0,vI 0 0,vR 255,vI 123 0,vI 0 0,vR 268,vI 125 0,vI 0 0,vR 280,vI 128 0,vI 0 0,vR 292,vI 134 0,vI 0 0,vR 297,vI 136 0,vI 0 0,vR 302,vI 138 0,vI 0 0,vR 309,vI 152 0,vI 0 0,vR 316,vI 154 0,vI 0 0,vR 323,vI 157 0,vI 0 0,vR 330,vI 162 0,vI 0 0,vR 337,vI 166 0,vI 0 0,vR 344]))++[oT [],oF [],oT [vS z35 585,vS z90 586,vS z38 587,vS z46 588],oT [],oG z92 z92 (U 35),oC z92 582 z92 583 584 154 3 3 318 true 319 320 321 322 589 154 590,oH z92 z92 (U 35) z82 536 323,oT [],oF [],oT [vS z35 595,vS z38 596],oT [],oG z93 z93 (U 36),oC z93 592 z93 593 594 157 2 3 325 true 326 327 328 329 597 157 598,oH z93 z93 (U 36) z82 536 330,oT [],oF [],oT [vS z27 609,vS z68 610],oT [],oG z96 z96 (U 40),oC z96 606 z96 607 608 162 2 3 332 true 333 334 335 336 611 162 612,oH z96 z96 (U 40) z98 600 337,oT [],fun _=>Obj.mk (vT y6) none (.fields #[vU y7,vT y8]) #[],fun P=>Obj.mk (vT y3) none (.dict #[dE (kH P z49) (vS z49 621) (vS z98 600),dE (kH P z50) (vS z50 623) (vS z97 622),dE (kH P z51) (vS z51 625) (vI 166 624),dE (kH P z56) (vS z56 631) (vR 350),dE (kH P z99) (vS z99 638) (vR 357),dE (kH P z52) (vS z52 641) (vR 358)] 6) #[],oT [],oF [vI 168 0,vI 4 0,vR 349,vI 178 0,vI 4 0,vR 356],fun _=>Obj.mk (vT y1) none (.fields #[vS z97 616,vS z97 617,vS z1 618,vI 166 0,vI 0 0,vI 0 0,vI 0 0,vI 0 0,vR 342,vB false,vI 181 0,vR 343,vN,vN,vN,vN,vI 619 0,vI 166 0,vS z1 620]) #[],fun _=>Obj.mk (vT y2) none .plain #[some (vR 344),some (vR 3),some (vR 341),none,some (vS z98 600),none,some (vR 0)],oT [],oF [],oG z56 z100 (M 41 0),fun _=>Obj.mk (vT y1) none (.fields #[vS z56 626,vS z100 627,vS z1 628,vI 168 0,vI 3 0,vI 0 0,vI 0 0,vI 3 0,vR 346,vB true,vI 181 0,vR 347,vN,vN,vN,vR 348,vI 629 0,vI 168 0,vS z1 630]) #[],oH z56 z100 (M 41 0) z98 600 349,oT [],oF [],oT [vS z59 635],oT [],oG z99 z101 (M 41 1),oC z99 632 z101 633 634 178 1 3 351 true 352 353 354 355 636 178 637,oH z99 z101 (M 41 1) z98 600 356,oT [vS z102 639,vS z68 640],fun P=>Obj.mk (vT y3) none (.dict #[dE (kH P z49) (vS z49 621) (vS z98 600),dE (kH P z51) (vS z51 625) (vI 166 624),dE (kH P z56) (vS z56 631) (vR 350),dE (kH P z99) (vS z99 638) (vR 357),dE (kH P z52) (vS z52 641) (vR 358),dE (kH P z53) (vS z53 643) (vR 361),dE (kH P z54) (vS z54 645) (vR 362),dE (kH P z5) (vS z5 646) vN] 4) #[],fun _=>Obj.mk (vT y8) none (.cls (ClassData.mk z97 [vT y9] [vR 360,vT y9] 359 z97 true [] [] false none false)) #[none,none,some (vS z97 614),some (vS z97 622),some (vU y10),some (vB true)],fun _=>Obj.mk (vT y11) none (.fields #[vS z53 642,vR 360,vU y12,vU y13]) #[],fun _=>Obj.mk (vT y11) none (.fields #[vS z54 644,vR 360,vU y14,vN]) #[],fun _=>Obj.mk (vT y15) none (.fields #[vR 360,vR 360,vR 360]) #[],fun _=>Obj.mk (vT y6) none (.fields #[vU y16,vR 360]) #[]]
noncomputable def t9 (P:Params):BT:=bt P 10 l9
noncomputable def l10:List (Params->Obj):=((l9.set 3 (fun P=>Obj.mk (vT y3) none (.dict #[dE (kH P z3) (vS z3 165) (vS eZ 712),dE (kH P z5) (vS z5 166) vN,dE (kH P z6) (vS z6 167) vN,dE (kH P z7) (vS z7 168) (vU y4),dE (kH P z8) (vS z8 169) vN,dE (kH P z9) (vS z9 170) (vR 6),dE (kH P z10) (vS z10 171) (vR 4),dE (kH P z11) (vS z11 173) (vS z1 172),dE (kH P z12) (vS z12 174) vN,dE (kH P z13) (vS z13 193) (vR 21),dE (kH P z14) (vS z14 202) (vR 28),dE (kH P z15) (vS z15 209) (vR 35),dE (kH P z16) (vS z16 217) (vR 42),dE (kH P z17) (vS z17 224) (vR 49),dE (kH P z18) (vS z18 230) (vR 54),dE (kH P z19) (vS z19 238) (vR 61),dE (kH P z20) (vS z20 246) (vR 68),dE (kH P z21) (vS z21 252) (vR 73),dE (kH P z22) (vS z22 258) (vR 78),dE (kH P z23) (vS z23 264) (vR 83),dE (kH P z24) (vS z24 275) (vR 90),dE (kH P z25) (vS z25 281) (vR 95),dE (kH P z40) (vS z40 289) (vR 102),dE (kH P z41) (vS z41 297) (vR 109),dE (kH P z42) (vS z42 305) (vR 114),dE (kH P z43) (vS z43 314) (vR 121),dE (kH P z44) (vS z44 320) (vR 126),dE (kH P z45) (vS z45 340) (vR 136),dE (kH P z55) (vS z55 384) (vR 171),dE (kH P z67) (vS z67 417) (vR 197),dE (kH P z71) (vS z71 452) (vR 223),dE (kH P z76) (vS z76 483) (vR 247),dE (kH P z80) (vS z80 503) (vR 259),dE (kH P z81) (vS z81 519) (vR 272),dE (kH P z83) (vS z83 535) (vR 284),dE (kH P z84) (vS z84 547) (vR 293),dE (kH P z85) (vS z85 553) (vR 298),dE (kH P z86) (vS z86 559) (vR 303),dE (kH P z87) (vS z87 573) (vR 310),dE (kH P z88) (vS z88 581) (vR 317),dE (kH P z92) (vS z92 591) (vR 324),dE (kH P z93) (vS z93 599) (vR 331),dE (kH P z94) (vS z94 603) (vI 8 602),dE (kH P z95) (vS z95 605) (vI 14 604),dE (kH P z96) (vS z96 613) (vR 338),dE (kH P z97) (vS z97 648) (vR 360),dE (kH P li) (vS li 658) (vR 371),dE (kH P lj) (vS lj 668) (vR 378),dE (kH P ll) (vS ll 677) (vR 385),dE (kH P ln) (vS ln 683) (vR 390),dE (kH P lq) (vS lq 694) (vR 397),dE (kH P lr) (vS lr 702) (vR 404),dE (kH P lu) (vS lu 711) (vR 411),dE (kH P lv) (vS lv 721) (vR 418),dE (kH P lw) (vS lw 731) (vR 425),dE (kH P lx) (vS lx 747) (vR 432),dE (kH P ly) (vS ly 753) (vR 437),dE (kH P lz) (vS lz 763) (vR 444)] 58) #[])).set 12 (oF [vI 1 0,vI 0 0,vR 20,vI 5 0,vI 0 0,vR 27,vI 7 0,vI 0 0,vR 34,vI 9 0,vI 0 0,vR 41,vI 11 0,vI 0 0,vR 48,vI 13 0,vI 0 0,vR 53,vI 15 0,vI 0 0,vR 60,vI 17 0,vI 0 0,vR 67,vI 19 0,vI 0 0,vR 72,vI 22 0,vI 0 0,vR 77,vI 28 0,vI 0 0,vR 82,vI 30 0,vI 0 0,vR 89,vI 39 0,vI 0 0,vR 94,vI 50 0,vI 0 0,vR 101,vI 52 0,vI 0 0,vR 108,vI 57 0,vI 0 0,vR 113,vI 59 0,vI 0 0,vR 120,vI 64 0,vI 0 0,vR 125,vI 70 0,vI 0 0,vR 132,vI 72 0,vI 0 0,vR 146,vI 90 0,vI 0 0,vR 179,vI 99 0,vI 0 0,vR 205,vI 107 0,vI 0 0,vR 231,vI 121 0,vI 0 0,vR 255,vI 123 0,vI 0 0,vR 268,vI 125 0,vI 0 0,vR 280,vI 128 0,vI 0 0,vR 292,vI 134 0,vI 0 0,vR 297,vI 136 0,vI 0 0,vR 302,vI 138 0,vI 0 0,vR 309,vI 152 0,vI 0 0,vR 316,vI 154 0,vI 0 0,vR 323,vI 157 0,vI 0 0,vR 330,vI 162 0,vI 0 0,vR 337,vI 166 0,vI 0 0,vR 344,vI 181 0,vI 0 0,vR 370,vI 184 0,vI 0 0,vR 377,vI 191 0,vI 0 0,vR 384,vI 194 0,vI 0 0,vR 389,vI 198 0,vI 0 0,vR 396,vI 208 0,vI 0 0,vR 403,vI 212 0,vI 0 0,vR 410,vI 220 0,vI 0 0,vR 417,vI 224 0,vI 0 0,vR 424,vI 227 0,vI 0 0,vR 431,vI 249 0,vI 0 0,vR 436,vI 251 0,vI 0 0,vR 443]))++[oT [],oF [],oT [vS z29 654,vS z116 655],oT [],oG li li (U 43),oC li 651 li 652 653 181 2 3 365 true 366 367 368 369 656 181 657,oH li li (U 43) z91 649 370,oT [],oF [],oT [vS z29 662,vS z35 663,vS z37 664,vS z68 665],oT [],oG lj lj (U 44),oC lj 659 lj 660 661 184 1 3 372 true 373 374 375 376 666 184 667,oH lj lj (U 44) z91 649 377,oT [],oF [],oT [vS z29 672,vS z30 673,vS z34 674],oT [],oG ll ll (U 45),oC ll 669 ll 670 671 191 2 3 379 true 380 381 382 383 675 191 676,oH ll ll (U 45) z91 649 384,oT [],oF [],oG ln ln (U 46),fun _=>Obj.mk (vT y1) none (.fields #[vS ln 678,vS ln 679,vS z1 680,vI 194 0,vI 2 0,vI 0 0,vI 0 0,vI 3 0,vR 386,vB true,vI 181 0,vR 387,vN,vN,vN,vR 388,vI 681 0,vI 194 0,vS z1 682]) #[],oH ln ln (U 46) z91 649 389,oT [],oF [],oT [vS z29 687,vS z60 688,vS z90 689,vS z35 690,vS z63 691],oT [],oG lq lq (U 47),oC lq 684 lq 685 686 198 1 3 391 true 392 393 394 395 692 198 693,oH lq lq (U 47) z91 649 396,oT [],oF [],oT [vS z29 698,vS z68 699],oT [],oG lr lr (U 48),oC lr 695 lr 696 697 208 1 3 398 true 399 400 401 402 700 208 701,oH lr lr (U 48) z91 649 403,oT [],oF [],oT [vS z29 706,vS z30 707,vS z72 708],oT [],oG lu lu (U 49),oC lu 703 lu 704 705 212 1 3 405 true 406 407 408 409 709 212 710,oH lu lu (U 49) z91 649 410,oT [],oF [],oT [vS z117 717,vS z118 718],oT [],oG lv lv (U 51),oC lv 714 lv 715 716 220 2 3 412 true 413 414 415 416 719 220 720,oH lv lv (U 51) eZ 712 417,oT [],oF [],oT [vS z119 725,vS z118 726,vS z120 727,vS z121 728],oT [],oG lw lw (U 52),oC lw 722 lw 723 724 224 3 3 419 true 420 421 422 423 729 224 730,oH lw lw (U 52) eZ 712 424,oT [],oF [],oT [vS z119 735,vS z122 736,vS z123 737,vS z124 738,vS z125 739,vS z126 740,vS z118 741,vS z127 742,vS z128 743,vS z129 744],oT [],oG lx lx (U 53),oC lx 732 lx 733 734 227 2 3 426 true 427 428 429 430 745 227 746,oH lx lx (U 53) eZ 712 431,oT [],oF [],oG ly ly (U 54),fun _=>Obj.mk (vT y1) none (.fields #[vS ly 748,vS ly 749,vS z1 750,vI 249 0,vI 2 0,vI 0 0,vI 0 0,vI 3 0,vR 433,vB true,vI 181 0,vR 434,vN,vN,vN,vR 435,vI 751 0,vI 249 0,vS z1 752]) #[],oH ly ly (U 54) eZ 712 436,oT [],oF [],oT [vS z130 757,vS z123 758,vS z131 759,vS z132 760],oT [],oG lz lz (U 55),oC lz 754 lz 755 756 251 2 3 438 true 439 440 441 442 761 251 762,oH lz lz (U 55) eZ 712 443]
noncomputable def t10 (P:Params):BT:=bt P 10 l10
noncomputable def l11:List (Params->Obj):=((l10.set 3 (fun P=>Obj.mk (vT y3) none (.dict #[dE (kH P z3) (vS z3 165) (vS eZ 712),dE (kH P z5) (vS z5 166) vN,dE (kH P z6) (vS z6 167) vN,dE (kH P z7) (vS z7 168) (vU y4),dE (kH P z8) (vS z8 169) vN,dE (kH P z9) (vS z9 170) (vR 6),dE (kH P z10) (vS z10 171) (vR 4),dE (kH P z11) (vS z11 173) (vS z1 172),dE (kH P z12) (vS z12 174) vN,dE (kH P z13) (vS z13 193) (vR 21),dE (kH P z14) (vS z14 202) (vR 28),dE (kH P z15) (vS z15 209) (vR 35),dE (kH P z16) (vS z16 217) (vR 42),dE (kH P z17) (vS z17 224) (vR 49),dE (kH P z18) (vS z18 230) (vR 54),dE (kH P z19) (vS z19 238) (vR 61),dE (kH P z20) (vS z20 246) (vR 68),dE (kH P z21) (vS z21 252) (vR 73),dE (kH P z22) (vS z22 258) (vR 78),dE (kH P z23) (vS z23 264) (vR 83),dE (kH P z24) (vS z24 275) (vR 90),dE (kH P z25) (vS z25 281) (vR 95),dE (kH P z40) (vS z40 289) (vR 102),dE (kH P z41) (vS z41 297) (vR 109),dE (kH P z42) (vS z42 305) (vR 114),dE (kH P z43) (vS z43 314) (vR 121),dE (kH P z44) (vS z44 320) (vR 126),dE (kH P z45) (vS z45 340) (vR 136),dE (kH P z55) (vS z55 384) (vR 171),dE (kH P z67) (vS z67 417) (vR 197),dE (kH P z71) (vS z71 452) (vR 223),dE (kH P z76) (vS z76 483) (vR 247),dE (kH P z80) (vS z80 503) (vR 259),dE (kH P z81) (vS z81 519) (vR 272),dE (kH P z83) (vS z83 535) (vR 284),dE (kH P z84) (vS z84 547) (vR 293),dE (kH P z85) (vS z85 553) (vR 298),dE (kH P z86) (vS z86 559) (vR 303),dE (kH P z87) (vS z87 573) (vR 310),dE (kH P z88) (vS z88 581) (vR 317),dE (kH P z92) (vS z92 591) (vR 324),dE (kH P z93) (vS z93 599) (vR 331),dE (kH P z94) (vS z94 603) (vI 8 602),dE (kH P z95) (vS z95 605) (vI 14 604),dE (kH P z96) (vS z96 613) (vR 338),dE (kH P z97) (vS z97 648) (vR 360),dE (kH P li) (vS li 658) (vR 371),dE (kH P lj) (vS lj 668) (vR 378),dE (kH P ll) (vS ll 677) (vR 385),dE (kH P ln) (vS ln 683) (vR 390),dE (kH P lq) (vS lq 694) (vR 397),dE (kH P lr) (vS lr 702) (vR 404),dE (kH P lu) (vS lu 711) (vR 411),dE (kH P lv) (vS lv 721) (vR 418),dE (kH P lw) (vS lw 731) (vR 425),dE (kH P lx) (vS lx 747) (vR 432),dE (kH P ly) (vS ly 753) (vR 437),dE (kH P lz) (vS lz 763) (vR 444),dE (kH P z133) (vS z133 769) (vR 449),dE (kH P z134) (vS z134 777) (vR 456),dE (kH P z135) (vS z135 785) (vR 463),dE (kH P z136) (vS z136 791) (vR 468),dE (kH P z137) (vS z137 800) (vR 475),dE (kH P z138) (vS z138 814) (vR 482)] 64) #[])).set 12 (oF [vI 1 0,vI 0 0,vR 20,vI 5 0,vI 0 0,vR 27,vI 7 0,vI 0 0,vR 34,vI 9 0,vI 0 0,vR 41,vI 11 0,vI 0 0,vR 48,vI 13 0,vI 0 0,vR 53,vI 15 0,vI 0 0,vR 60,vI 17 0,vI 0 0,vR 67,vI 19 0,vI 0 0,vR 72,vI 22 0,vI 0 0,vR 77,vI 28 0,vI 0 0,vR 82,vI 30 0,vI 0 0,vR 89,vI 39 0,vI 0 0,vR 94,vI 50 0,vI 0 0,vR 101,vI 52 0,vI 0 0,vR 108,vI 57 0,vI 0 0,vR 113,vI 59 0,vI 0 0,vR 120,vI 64 0,vI 0 0,vR 125,vI 70 0,vI 0 0,vR 132,vI 72 0,vI 0 0,vR 146,vI 90 0,vI 0 0,vR 179,vI 99 0,vI 0 0,vR 205,vI 107 0,vI 0 0,vR 231,vI 121 0,vI 0 0,vR 255,vI 123 0,vI 0 0,vR 268,vI 125 0,vI 0 0,vR 280,vI 128 0,vI 0 0,vR 292,vI 134 0,vI 0 0,vR 297,vI 136 0,vI 0 0,vR 302,vI 138 0,vI 0 0,vR 309,vI 152 0,vI 0 0,vR 316,vI 154 0,vI 0 0,vR 323,vI 157 0,vI 0 0,vR 330,vI 162 0,vI 0 0,vR 337,vI 166 0,vI 0 0,vR 344,vI 181 0,vI 0 0,vR 370,vI 184 0,vI 0 0,vR 377,vI 191 0,vI 0 0,vR 384,vI 194 0,vI 0 0,vR 389,vI 198 0,vI 0 0,vR 396,vI 208 0,vI 0 0,vR 403,vI 212 0,vI 0 0,vR 410,vI 220 0,vI 0 0,vR 417,vI 224 0,vI 0 0,vR 424,vI 227 0,vI 0 0,vR 431,vI 249 0,vI 0 0,vR 436,vI 251 0,vI 0 0,vR 443,vI 260 0,vI 0 0,vR 448,vI 275 0,vI 0 0,vR 455,vI 277 0,vI 0 0,vR 462,vI 281 0,vI 0 0,vR 467,vI 295 0,vI 0 0,vR 474,vI 305 0,vI 0 0,vR 481]))++[oT [],oF [],oG z133 z133 (U 56),fun _=>Obj.mk (vT y1) none (.fields #[vS z133 764,vS z133 765,vS z1 766,vI 260 0,vI 2 0,vI 0 0,vI 0 0,vI 3 0,vR 445,vB true,vI 181 0,vR 446,vN,vN,vN,vR 447,vI 767 0,vI 260 0,vS z1 768]) #[],oH z133 z133 (U 56) eZ 712 448,oT [],oF [],oT [vS z139 773,vS z140 774],oT [],oG z134 z134 (U 57),oC z134 770 z134 771 772 275 2 3 450 true 451 452 453 454 775 275 776,oH z134 z134 (U 57) eZ 712 455,oT [],oF [],oT [vS z139 781,vS z140 782],oT [],oG z135 z135 (U 58),oC z135 778 z135 779 780 277 2 3 457 true 458 459 460 461 783 277 784,oH z135 z135 (U 58) eZ 712 462,oT [],oF [],oG z136 z136 (U 59),fun _=>Obj.mk (vT y1) none (.fields #[vS z136 786,vS z136 787,vS z1 788,vI 281 0,vI 3 0,vI 0 0,vI 0 0,vI 3 0,vR 464,vB true,vI 181 0,vR 465,vN,vN,vN,vR 466,vI 789 0,vI 281 0,vS z1 790]) #[],oH z136 z136 (U 59) eZ 712 467,oT [],oF [],oT [vS z139 795,vS z141 796,vS z142 797],oT [],oG z137 z137 (U 60),oC z137 792 z137 793 794 295 3 3 469 true 470 471 472 473 798 295 799,oH z137 z137 (U 60) eZ 712 474,oT [],oF [],oT [vS z117 804,vS z139 805,vS z143 806,vS z141 807,vS z144 808,vS z145 809,vS z142 810,vS z146 811],oT [],oG z138 z138 (U 61),oC z138 801 z138 802 803 305 1 3 476 true 477 478 479 480 812 305 813,oH z138 z138 (U 61) eZ 712 481]
noncomputable def t11 (P:Params):BT:=bt P 10 l11
abbrev BB:List Stmt:=behindTheImports Pf
abbrev EE:Env:={ scope:=Pf.main.scope,locals:=mainNs,globals:=mainNs,cells:=[],code:=.ref 13,frame:=some 14 }
theorem pc {tb:String->Option Builtin} {p:Program} {w:World} {n₀:Nat} {ann:Option Value} {env:Env} {q:Pos} {n N k m:Nat} {s s':SharedT} {r:Shared} {b:List Stmt} {c:Code} {pos p':Pos}
  (h:segRunT tb p w n₀ ann 1 n s (piecesOf ((b.drop k).take m) env c pos [topFrame q])=some (.next,s',c,p')) (K:topRun tb p w n₀ ann N s'.abs (restOf (b.drop (k+m)) env c p' [topFrame q])=some r) :
  topRun tb p w n₀ ann (n+N) s.abs (restOf (b.drop k) env c pos [topFrame q])=some r:=by
 have h2:=piece_app (rest:=b.drop (k+m)) (segRun_of h) K;rwa [<-List.drop_drop,List.take_append_drop] at h2
noncomputable def Ha (P:Params):Heap:=⟨⟨l0.map (· P)⟩,{}⟩
noncomputable def H1 (P:Params):Heap:=⟨⟨l11.map (· P)⟩,{}⟩
theorem pre (w:World) (os:OsState):topGo treeTable Pf w 11 (some (.ref 6)) 12 ⟨boot_heap w.params,⟨[]⟩,boot_drawn,boot_toks,os⟩ (topStub Pf)=some (⟨Ha w.params,⟨[]⟩,{},187,os⟩,⟨denote treeTable (.body BB EE),.body BB EE,⟨0,0,0,0⟩,[topFrame ⟨0,0,0,0⟩]⟩):=by
 rw [Fast.te15667345088766844465,Fast.te11892475500146522536,Fast.te14364793385576792824];kernel_rfl
theorem blk (w:World) (os:OsState):segRun treeTable Pf w 11 (some (.ref 6)) 1 1 ⟨Ha w.params,⟨[]⟩,{},187,os⟩ (blockOf BB EE (.body BB EE) ⟨0,0,0,0⟩ [topFrame ⟨0,0,0,0⟩])=some (.next,SharedT.abs ⟨t0 w.params,15,{},⟨[]⟩,{},187,os⟩,.body BB EE,⟨0,0,0,0⟩):=by
 rw [Fast.te14374325043358763698,Fast.te14364793385576792824];kernel_rfl
theorem q0 (w:World) (os:OsState):segRunT treeTable Pf w 11 (some (.ref 6)) 1 379 ⟨t0 w.params,15,{},⟨[]⟩,{},187,os⟩ (piecesOf ((BB.drop 0).take 14) EE (.body BB EE) ⟨0,0,0,0⟩ [topFrame ⟨0,0,0,0⟩])=some (.next,⟨t1 w.params,96,{},⟨[]⟩,{},282,os⟩,.body BB EE,⟨39,0,49,104⟩):=by
 rw [Fast.te10110043849684766642,Fast.te14364793385576792824];kernel_rfl
theorem q1 (w:World) (os:OsState):segRunT treeTable Pf w 11 (some (.ref 6)) 1 343 ⟨t1 w.params,96,{},⟨[]⟩,{},282,os⟩ (piecesOf ((BB.drop 14).take 7) EE (.body BB EE) ⟨39,0,49,104⟩ [topFrame ⟨0,0,0,0⟩])=some (.next,⟨t2 w.params,141,{},⟨[]⟩,{},341,os⟩,.body BB EE,⟨70,0,71,8⟩):=by
 rw [Fast.te10110043849684766642,Fast.te14364793385576792824];kernel_rfl
theorem q2 (w:World) (os:OsState):segRunT treeTable Pf w 11 (some (.ref 6)) 1 313 ⟨t2 w.params,141,{},⟨[]⟩,{},341,os⟩ (piecesOf ((BB.drop 21).take 1) EE (.body BB EE) ⟨70,0,71,8⟩ [topFrame ⟨0,0,0,0⟩])=some (.next,⟨t3 w.params,174,{},⟨[]⟩,{},385,os⟩,.body BB EE,⟨72,0,89,16⟩):=by
 rw [Fast.te10110043849684766642,Fast.te14364793385576792824];kernel_rfl
theorem q3 (w:World) (os:OsState):segRunT treeTable Pf w 11 (some (.ref 6)) 1 278 ⟨t3 w.params,174,{},⟨[]⟩,{},385,os⟩ (piecesOf ((BB.drop 22).take 1) EE (.body BB EE) ⟨72,0,89,16⟩ [topFrame ⟨0,0,0,0⟩])=some (.next,⟨t4 w.params,200,{},⟨[]⟩,{},418,os⟩,.body BB EE,⟨90,0,98,57⟩):=by
 rw [Fast.te10110043849684766642,Fast.te14364793385576792824];kernel_rfl
theorem q4 (w:World) (os:OsState):segRunT treeTable Pf w 11 (some (.ref 6)) 1 280 ⟨t4 w.params,200,{},⟨[]⟩,{},418,os⟩ (piecesOf ((BB.drop 23).take 1) EE (.body BB EE) ⟨90,0,98,57⟩ [topFrame ⟨0,0,0,0⟩])=some (.next,⟨t5 w.params,226,{},⟨[]⟩,{},453,os⟩,.body BB EE,⟨99,0,106,98⟩):=by
 rw [Fast.te10110043849684766642,Fast.te14364793385576792824];kernel_rfl
theorem q5 (w:World) (os:OsState):segRunT treeTable Pf w 11 (some (.ref 6)) 1 283 ⟨t5 w.params,226,{},⟨[]⟩,{},453,os⟩ (piecesOf ((BB.drop 24).take 2) EE (.body BB EE) ⟨99,0,106,98⟩ [topFrame ⟨0,0,0,0⟩])=some (.next,⟨t6 w.params,250,{},⟨[]⟩,{},486,os⟩,.body BB EE,⟨120,0,120,8⟩):=by
 rw [Fast.te10110043849684766642,Fast.te14364793385576792824];kernel_rfl
theorem q6 (w:World) (os:OsState):segRunT treeTable Pf w 11 (some (.ref 6)) 1 400 ⟨t6 w.params,250,{},⟨[]⟩,{},486,os⟩ (piecesOf ((BB.drop 26).take 2) EE (.body BB EE) ⟨120,0,120,8⟩ [topFrame ⟨0,0,0,0⟩])=some (.next,⟨t7 w.params,275,{},⟨[]⟩,{},520,os⟩,.body BB EE,⟨123,0,124,8⟩):=by
 rw [Fast.te10110043849684766642,Fast.te14364793385576792824];kernel_rfl
theorem q7 (w:World) (os:OsState):segRunT treeTable Pf w 11 (some (.ref 6)) 1 373 ⟨t7 w.params,275,{},⟨[]⟩,{},520,os⟩ (piecesOf ((BB.drop 28).take 7) EE (.body BB EE) ⟨123,0,124,8⟩ [topFrame ⟨0,0,0,0⟩])=some (.next,⟨t8 w.params,318,{},⟨[]⟩,{},582,os⟩,.body BB EE,⟨152,0,153,53⟩):=by
 rw [Fast.te10110043849684766642,Fast.te14364793385576792824];kernel_rfl
theorem q8 (w:World) (os:OsState):segRunT treeTable Pf w 11 (some (.ref 6)) 1 379 ⟨t8 w.params,318,{},⟨[]⟩,{},582,os⟩ (piecesOf ((BB.drop 35).take 8) EE (.body BB EE) ⟨152,0,153,53⟩ [topFrame ⟨0,0,0,0⟩])=some (.next,⟨t9 w.params,365,{},⟨[]⟩,{},651,os⟩,.body BB EE,⟨180,0,180,8⟩):=by
 rw [Fast.te10110043849684766642,Fast.te14364793385576792824];kernel_rfl
theorem q9 (w:World) (os:OsState):segRunT treeTable Pf w 11 (some (.ref 6)) 1 381 ⟨t9 w.params,365,{},⟨[]⟩,{},651,os⟩ (piecesOf ((BB.drop 43).take 13) EE (.body BB EE) ⟨180,0,180,8⟩ [topFrame ⟨0,0,0,0⟩])=some (.next,⟨t10 w.params,445,{},⟨[]⟩,{},764,os⟩,.body BB EE,⟨251,0,259,15⟩):=by
 rw [Fast.te10110043849684766642,Fast.te14364793385576792824];kernel_rfl
theorem q10 (w:World) (os:OsState):segRunT treeTable Pf w 11 (some (.ref 6)) 1 180 ⟨t10 w.params,445,{},⟨[]⟩,{},764,os⟩ (piecesOf ((BB.drop 56).take 6) EE (.body BB EE) ⟨251,0,259,15⟩ [topFrame ⟨0,0,0,0⟩])=some (.next,⟨t11 w.params,483,{},⟨[]⟩,{},815,os⟩,.body BB EE,⟨305,0,330,47⟩):=by
 rw [Fast.te10110043849684766642,Fast.te14364793385576792824];kernel_rfl
theorem fin (w:World) (os:OsState):topRun treeTable Pf w 11 (some (.ref 6)) 2 (SharedT.abs ⟨t11 w.params,483,{},⟨[]⟩,{},815,os⟩) ⟨doneF .next,.body BB EE,⟨305,0,330,47⟩,[topFrame ⟨0,0,0,0⟩]⟩=some ⟨H1 w.params,⟨[]⟩,{},815,os⟩:=by
 rw [Fast.te14082659384304107361,Fast.te14364793385576792824];kernel_rfl
theorem nil0:BB.drop 62=[]:=by kernel_rfl
theorem fin1 (w:World) (os:OsState):topRun treeTable Pf w 11 (some (.ref 6)) 2 (SharedT.abs ⟨t11 w.params,483,{},⟨[]⟩,{},815,os⟩) (restOf (BB.drop 62) EE (.body BB EE) ⟨305,0,330,47⟩ [topFrame ⟨0,0,0,0⟩])=some ⟨H1 w.params,⟨[]⟩,{},815,os⟩:=by
 rw [nil0];exact piece_nil (fin w os)
theorem run (w:World) (os:OsState):topRun treeTable Pf w 11 (some (.ref 6)) (12+(1+(379+(343+(313+(278+(280+(283+(400+(373+(379+(381+(180+(2)))))))))))))) ⟨boot_heap w.params,⟨[]⟩,boot_drawn,boot_toks,os⟩ (topStub Pf)=some ⟨H1 w.params,⟨[]⟩,{},815,os⟩:=
 go_top (pre w os) (piece_block (blk w os) (pc (q0 w os) (pc (q1 w os) (pc (q2 w os) (pc (q3 w os) (pc (q4 w os) (pc (q5 w os) (pc (q6 w os) (pc (q7 w os) (pc (q8 w os) (pc (q9 w os) (pc (q10 w os) (fin1 w os)))))))))))))
noncomputable def kp:List Nat:=[0,2,3,4,5,6,7,8,9,10,11,12,13,14,15,17,18,19,20,21,22,23,24,26,27,28,30,31,32,33,34,35,36,38,39,40,41,43,44,45,46,47,48,49,51,52,53,54,55,56,57,58,59,60,61]
noncomputable def qv (p:Program):Program:={ p with main:={ p.main with body:=kp.filterMap fun i=>p.main.body[i]? } }
abbrev QF:Program:=qv Pf
noncomputable def g (a:Nat) (P:Params):Obj:=(l11.getD a boot_o_0) P
noncomputable def KK:Params->Frag:=fun P=>(nat_lit 2,g 2 P)::(nat_lit 3,g 3 P)::(nat_lit 15,g 15 P)::(nat_lit 17,g 17 P)::(nat_lit 18,g 18 P)::(nat_lit 20,g 20 P)::(nat_lit 21,oH z13 z13 (U 0) z2 164 20 P)::(nat_lit 22,g 22 P)::(nat_lit 24,g 24 P)::(nat_lit 25,g 25 P)::(nat_lit 27,g 27 P)::(nat_lit 28,oH z14 z14 (U 2) z4 194 27 P)::(nat_lit 29,g 29 P)::(nat_lit 31,g 31 P)::(nat_lit 32,g 32 P)::(nat_lit 34,g 34 P)::(nat_lit 35,oH z15 z15 (U 3) z4 194 34 P)::(nat_lit 36,g 36 P)::(nat_lit 38,g 38 P)::(nat_lit 39,g 39 P)::(nat_lit 41,g 41 P)::(nat_lit 42,oH z16 z16 (U 4) z4 194 41 P)::(nat_lit 43,g 43 P)::(nat_lit 45,g 45 P)::(nat_lit 46,g 46 P)::(nat_lit 48,g 48 P)::(nat_lit 49,oH z17 z17 (U 5) z4 194 48 P)::(nat_lit 50,g 50 P)::(nat_lit 53,g 53 P)::(nat_lit 54,oH z18 z18 (U 6) z4 194 53 P)::(nat_lit 55,g 55 P)::(nat_lit 57,g 57 P)::(nat_lit 58,g 58 P)::(nat_lit 60,g 60 P)::(nat_lit 61,oH z19 z19 (U 7) z4 194 60 P)::(nat_lit 62,g 62 P)::(nat_lit 64,g 64 P)::(nat_lit 65,g 65 P)::(nat_lit 67,g 67 P)::(nat_lit 68,oH z20 z20 (U 8) z4 194 67 P)::(nat_lit 69,g 69 P)::(nat_lit 72,g 72 P)::(nat_lit 73,oH z21 z21 (U 9) z4 194 72 P)::(nat_lit 74,g 74 P)::(nat_lit 77,g 77 P)::(nat_lit 78,oH z22 z22 (U 10) z4 194 77 P)::(nat_lit 79,g 79 P)::(nat_lit 82,g 82 P)::(nat_lit 83,oH z23 z23 (U 11) z4 194 82 P)::(nat_lit 84,g 84 P)::(nat_lit 86,g 86 P)::(nat_lit 87,g 87 P)::(nat_lit 89,g 89 P)::(nat_lit 90,oH z24 z24 (U 12) z4 194 89 P)::(nat_lit 91,g 91 P)::(nat_lit 94,g 94 P)::(nat_lit 95,oH z25 z25 (U 13) z4 194 94 P)::(nat_lit 96,g 96 P)::(nat_lit 98,g 98 P)::(nat_lit 99,g 99 P)::(nat_lit 101,g 101 P)::(nat_lit 102,oH z40 z40 (U 14) z4 194 101 P)::(nat_lit 103,g 103 P)::(nat_lit 105,g 105 P)::(nat_lit 106,g 106 P)::(nat_lit 108,g 108 P)::(nat_lit 109,oH z41 z41 (U 15) z4 194 108 P)::(nat_lit 110,g 110 P)::(nat_lit 113,g 113 P)::(nat_lit 114,oH z42 z42 (U 17) z39 298 113 P)::(nat_lit 115,g 115 P)::(nat_lit 117,g 117 P)::(nat_lit 118,g 118 P)::(nat_lit 120,g 120 P)::(nat_lit 121,oH z43 z43 (U 18) z39 298 120 P)::(nat_lit 122,g 122 P)::(nat_lit 125,g 125 P)::(nat_lit 126,oH z44 z44 (U 19) z39 298 125 P)::(nat_lit 134,g 134 P)::(nat_lit 135,g 135 P)::(nat_lit 136,Obj.mk (vT y8) none (.cls (ClassData.mk z45 [vT y9] [vR 136,vT y9] 135 z45 true [] [vR 171,vR 197,vR 223,vR 247] false none false)) #[none,none,some (vS z45 321),some (vS z45 329),some (vU y10),some (vB true)])::(nat_lit 137,g 137 P)::(nat_lit 138,g 138 P)::(nat_lit 141,g 141 P)::(nat_lit 148,g 148 P)::(nat_lit 150,g 150 P)::(nat_lit 151,g 151 P)::(nat_lit 153,g 153 P)::(nat_lit 154,oH z56 z61 (M 21 0) z39 298 153 P)::(nat_lit 155,g 155 P)::(nat_lit 157,g 157 P)::(nat_lit 158,g 158 P)::(nat_lit 160,g 160 P)::(nat_lit 161,oH z57 z65 (M 21 1) z39 298 160 P)::(nat_lit 162,g 162 P)::(nat_lit 164,g 164 P)::(nat_lit 165,g 165 P)::(nat_lit 167,g 167 P)::(nat_lit 168,oH z58 z66 (M 21 2) z39 298 167 P)::(nat_lit 169,g 169 P)::(nat_lit 170,g 170 P)::(nat_lit 171,Obj.mk (vT y8) none (.cls (ClassData.mk z55 [vR 136] [vR 171,vR 136,vT y9] 170 z55 true [] [] false none false)) #[some (vR 141),none,some (vS z55 341),some (vS z55 349),some (vU y10),some (vB true)])::(nat_lit 174,g 174 P)::(nat_lit 181,g 181 P)::(nat_lit 183,g 183 P)::(nat_lit 184,g 184 P)::(nat_lit 186,g 186 P)::(nat_lit 187,oH z56 z69 (M 22 0) z39 298 186 P)::(nat_lit 188,g 188 P)::(nat_lit 190,g 190 P)::(nat_lit 191,g 191 P)::(nat_lit 193,g 193 P)::(nat_lit 194,oH z57 z70 (M 22 1) z39 298 193 P)::(nat_lit 195,g 195 P)::(nat_lit 196,g 196 P)::(nat_lit 197,Obj.mk (vT y8) none (.cls (ClassData.mk z67 [vR 136] [vR 197,vR 136,vT y9] 196 z67 true [] [] false none false)) #[some (vR 174),none,some (vS z67 385),some (vS z67 393),some (vU y10),some (vB true)])::(nat_lit 200,g 200 P)::(nat_lit 207,g 207 P)::(nat_lit 209,g 209 P)::(nat_lit 210,g 210 P)::(nat_lit 212,g 212 P)::(nat_lit 213,oH z56 z73 (M 23 0) z39 298 212 P)::(nat_lit 214,g 214 P)::(nat_lit 216,g 216 P)::(nat_lit 217,g 217 P)::(nat_lit 219,g 219 P)::(nat_lit 220,oH z57 z74 (M 23 1) z39 298 219 P)::(nat_lit 221,g 221 P)::(nat_lit 222,g 222 P)::(nat_lit 223,Obj.mk (vT y8) none (.cls (ClassData.mk z71 [vR 136] [vR 223,vR 136,vT y9] 222 z71 true [] [] false none false)) #[some (vR 200),none,some (vS z71 418),some (vS z71 426),some (vU y10),some (vB true)])::(nat_lit 226,g 226 P)::(nat_lit 233,g 233 P)::(nat_lit 235,g 235 P)::(nat_lit 236,g 236 P)::(nat_lit 238,g 238 P)::(nat_lit 239,oH z56 z78 (M 24 0) z39 298 238 P)::(nat_lit 240,g 240 P)::(nat_lit 243,g 243 P)::(nat_lit 244,oH z57 z79 (M 24 1) z39 298 243 P)::(nat_lit 245,g 245 P)::(nat_lit 246,g 246 P)::(nat_lit 247,Obj.mk (vT y8) none (.cls (ClassData.mk z76 [vR 136] [vR 247,vR 136,vT y9] 246 z76 true [] [] false none false)) #[some (vR 226),none,some (vS z76 453),some (vS z76 461),some (vU y10),some (vB true)])::(nat_lit 250,g 250 P)::(nat_lit 257,g 257 P)::(nat_lit 258,g 258 P)::(nat_lit 259,Obj.mk (vT y8) none (.cls (ClassData.mk z80 [vT y17] [vR 259,vT y17,vT y18,vT y19,vT y9] 258 z80 true [] [vR 272,vR 284] false none false)) #[some (vR 250),none,some (vS z80 486),some (vS z80 494),some (vU y20),some (vB true)])::(nat_lit 260,g 260 P)::(nat_lit 263,g 263 P)::(nat_lit 270,g 270 P)::(nat_lit 271,g 271 P)::(nat_lit 272,Obj.mk (vT y8) none (.cls (ClassData.mk z81 [vR 259] [vR 272,vR 259,vT y17,vT y18,vT y19,vT y9] 271 z81 true [] [] false none false)) #[some (vR 263),none,some (vS z81 504),some (vS z81 512),some (vU y20),some (vB true)])::(nat_lit 275,g 275 P)::(nat_lit 282,g 282 P)::(nat_lit 283,g 283 P)::(nat_lit 284,Obj.mk (vT y8) none (.cls (ClassData.mk z83 [vR 259] [vR 284,vR 259,vT y17,vT y18,vT y19,vT y9] 283 z83 true [] [] false none false)) #[some (vR 275),none,some (vS z83 520),some (vS z83 528),some (vU y20),some (vB true)])::(nat_lit 287,g 287 P)::(nat_lit 289,g 289 P)::(nat_lit 290,g 290 P)::(nat_lit 292,g 292 P)::(nat_lit 293,oH z84 z84 (U 30) z82 536 292 P)::(nat_lit 294,g 294 P)::(nat_lit 297,g 297 P)::(nat_lit 298,oH z85 z85 (U 31) z82 536 297 P)::(nat_lit 299,g 299 P)::(nat_lit 302,g 302 P)::(nat_lit 303,oH z86 z86 (U 32) z82 536 302 P)::(nat_lit 304,g 304 P)::(nat_lit 306,g 306 P)::(nat_lit 307,g 307 P)::(nat_lit 309,g 309 P)::(nat_lit 310,oH z87 z87 (U 33) z82 536 309 P)::(nat_lit 311,g 311 P)::(nat_lit 313,g 313 P)::(nat_lit 314,g 314 P)::(nat_lit 316,g 316 P)::(nat_lit 317,oH z88 z88 (U 34) z82 536 316 P)::(nat_lit 318,g 318 P)::(nat_lit 320,g 320 P)::(nat_lit 321,g 321 P)::(nat_lit 323,g 323 P)::(nat_lit 324,oH z92 z92 (U 35) z82 536 323 P)::(nat_lit 325,g 325 P)::(nat_lit 327,g 327 P)::(nat_lit 328,g 328 P)::(nat_lit 330,g 330 P)::(nat_lit 331,oH z93 z93 (U 36) z82 536 330 P)::(nat_lit 332,g 332 P)::(nat_lit 334,g 334 P)::(nat_lit 335,g 335 P)::(nat_lit 337,g 337 P)::(nat_lit 338,oH z96 z96 (U 40) z98 600 337 P)::(nat_lit 346,g 346 P)::(nat_lit 349,g 349 P)::(nat_lit 350,oH z56 z100 (M 41 0) z98 600 349 P)::(nat_lit 351,g 351 P)::(nat_lit 353,g 353 P)::(nat_lit 354,g 354 P)::(nat_lit 356,g 356 P)::(nat_lit 357,oH z99 z101 (M 41 1) z98 600 356 P)::(nat_lit 358,g 358 P)::(nat_lit 359,g 359 P)::(nat_lit 360,Obj.mk (vT y8) none (.cls (ClassData.mk z97 [vT y9] [vR 360,vT y9] 359 z97 true [] [] false none false)) #[none,none,some (vS z97 614),some (vS z97 622),some (vU y10),some (vB true)])::(nat_lit 361,g 361 P)::(nat_lit 362,g 362 P)::(nat_lit 365,g 365 P)::(nat_lit 367,g 367 P)::(nat_lit 368,g 368 P)::(nat_lit 370,g 370 P)::(nat_lit 371,oH li li (U 43) z91 649 370 P)::(nat_lit 372,g 372 P)::(nat_lit 374,g 374 P)::(nat_lit 375,g 375 P)::(nat_lit 377,g 377 P)::(nat_lit 378,oH lj lj (U 44) z91 649 377 P)::(nat_lit 379,g 379 P)::(nat_lit 381,g 381 P)::(nat_lit 382,g 382 P)::(nat_lit 384,g 384 P)::(nat_lit 385,oH ll ll (U 45) z91 649 384 P)::(nat_lit 386,g 386 P)::(nat_lit 389,g 389 P)::(nat_lit 390,oH ln ln (U 46) z91 649 389 P)::(nat_lit 391,g 391 P)::(nat_lit 393,g 393 P)::(nat_lit 394,g 394 P)::(nat_lit 396,g 396 P)::(nat_lit 397,oH lq lq (U 47) z91 649 396 P)::(nat_lit 398,g 398 P)::(nat_lit 400,g 400 P)::(nat_lit 401,g 401 P)::(nat_lit 403,g 403 P)::(nat_lit 404,oH lr lr (U 48) z91 649 403 P)::(nat_lit 405,g 405 P)::(nat_lit 407,g 407 P)::(nat_lit 408,g 408 P)::(nat_lit 410,g 410 P)::(nat_lit 411,oH lu lu (U 49) z91 649 410 P)::(nat_lit 412,g 412 P)::(nat_lit 414,g 414 P)::(nat_lit 415,g 415 P)::(nat_lit 417,g 417 P)::(nat_lit 418,oH lv lv (U 51) eZ 712 417 P)::(nat_lit 419,g 419 P)::(nat_lit 421,g 421 P)::(nat_lit 422,g 422 P)::(nat_lit 424,g 424 P)::(nat_lit 425,oH lw lw (U 52) eZ 712 424 P)::(nat_lit 426,g 426 P)::(nat_lit 428,g 428 P)::(nat_lit 429,g 429 P)::(nat_lit 431,g 431 P)::(nat_lit 432,oH lx lx (U 53) eZ 712 431 P)::(nat_lit 433,g 433 P)::(nat_lit 436,g 436 P)::(nat_lit 437,oH ly ly (U 54) eZ 712 436 P)::(nat_lit 438,g 438 P)::(nat_lit 440,g 440 P)::(nat_lit 441,g 441 P)::(nat_lit 443,g 443 P)::(nat_lit 444,oH lz lz (U 55) eZ 712 443 P)::(nat_lit 445,g 445 P)::(nat_lit 448,g 448 P)::(nat_lit 449,oH z133 z133 (U 56) eZ 712 448 P)::(nat_lit 450,g 450 P)::(nat_lit 452,g 452 P)::(nat_lit 453,g 453 P)::(nat_lit 455,g 455 P)::(nat_lit 456,oH z134 z134 (U 57) eZ 712 455 P)::(nat_lit 457,g 457 P)::(nat_lit 459,g 459 P)::(nat_lit 460,g 460 P)::(nat_lit 462,g 462 P)::(nat_lit 463,oH z135 z135 (U 58) eZ 712 462 P)::(nat_lit 464,g 464 P)::(nat_lit 467,g 467 P)::(nat_lit 468,oH z136 z136 (U 59) eZ 712 467 P)::(nat_lit 469,g 469 P)::(nat_lit 471,g 471 P)::(nat_lit 472,g 472 P)::(nat_lit 474,g 474 P)::(nat_lit 475,oH z137 z137 (U 60) eZ 712 474 P)::(nat_lit 476,g 476 P)::(nat_lit 478,g 478 P)::(nat_lit 479,g 479 P)::(nat_lit 481,g 481 P)::(nat_lit 482,oH z138 z138 (U 61) eZ 712 481 P)::[]
noncomputable def ads:List Addr:=[2,3,15,17,18,20,21,22,24,25,27,28,29,31,32,34,35,36,38,39,41,42,43,45,46,48,49,50,53,54,55,57,58,60,61,62,64,65,67,68,69,72,73,74,77,78,79,82,83,84,86,87,89,90,91,94,95,96,98,99,101,102,103,105,106,108,109,110,113,114,115,117,118,120,121,122,125,126,134,135,136,137,138,141,148,150,151,153,154,155,157,158,160,161,162,164,165,167,168,169,170,171,174,181,183,184,186,187,188,190,191,193,194,195,196,197,200,207,209,210,212,213,214,216,217,219,220,221,222,223,226,233,235,236,238,239,240,243,244,245,246,247,250,257,258,259,260,263,270,271,272,275,282,283,284,287,289,290,292,293,294,297,298,299,302,303,304,306,307,309,310,311,313,314,316,317,318,320,321,323,324,325,327,328,330,331,332,334,335,337,338,346,349,350,351,353,354,356,357,358,359,360,361,362,365,367,368,370,371,372,374,375,377,378,379,381,382,384,385,386,389,390,391,393,394,396,397,398,400,401,403,404,405,407,408,410,411,412,414,415,417,418,419,421,422,424,425,426,428,429,431,432,433,436,437,438,440,441,443,444,445,448,449,450,452,453,455,456,457,459,460,462,463,464,467,468,469,471,472,474,475,476,478,479,481,482]
theorem adsE:∀ P,ads=(KK P).map (·.1):=fun P=>by kernel_rfl
abbrev Hk:Hook:=kHook KK ads adsE
theorem k1 (w:World) (os:OsState):(staticsOk (importedModules Pf.main.body) (boot_heap w.params) (H1 w.params)&&namesBound Pf (H1 w.params)&&gensDone ⟨H1 w.params,⟨[]⟩,{},815,os⟩&&laidKept (boot_heap w.params) (H1 w.params))=true:=by
 rw [Fast.te5923862056798008813];kernel_rfl
theorem k2 (w:World) (os:OsState):openSeen QF [] (importedModules Pf.main.body) (fun s=>xlAt QF [] s&&recOk (RowW.records PySem.Challenge.rw_earworks_k01_whole_ears.row.toRowW) s) true ⟨H1 w.params,⟨[]⟩,{},815,os⟩=openGood QF []:=by
 unfold openSeen openGood;refine looks_pair ?_ (looks_pair ?_ (looks_pair ?_ (looks_pair ?_ (looks_pair ?_ (looks_pair ?_ (looks_pair ?_ (looks_pair ?_ ?_)))))))
 ·rw [Fast.te5160383126252970620,Fast.te3399658132070893891,Fast.te5991557255702980513,PySem.W.R.mapR_eq];kernel_rfl
 ·kernel_rfl
 ·rw [Fast.te10880121769531294198,Fast.te821141287760084731,Fast.te3399658132070893891,Fast.te7409074990110511671,Fast.te13664370479719496447,PySem.W.R.mapR_eq,Fast.te14722251495701143533,Fast.te5923862056798008813,Fast.te10994771534591457954];kernel_rfl
 ·rw [Fast.te479339242167458305];kernel_rfl
 ·rw [Fast.te16090120013241838585,Fast.te3247288618530077131];kernel_rfl
 ·rw [Fast.te2386780881361962483,Fast.te821141287760084731];kernel_rfl
 ·rw [Fast.te11698064438423848299];kernel_rfl
 ·rw [Fast.te7317090234206586261];kernel_rfl
 ·rw [Fast.te7369524293546568484];kernel_rfl
theorem k3 (w:World) (os:OsState):Hk.obs ⟨H1 w.params,⟨[]⟩,{},815,os⟩=Hk.val w:=by kernel_rfl
theorem sz (w:World):((boot_heap w.params).isNs mainGlobals&&(⟨[]⟩ : Array GenState).size==0,(boot_heap w.params).objs.size,(boot_heap w.params).nsMap mainGlobals "__annotations__")=(true,11,some (.ref 6)):=by
 rw [Fast.te8920871248978507458,show ("__annotations__" : Str)=⟨⟨[95,95,97,110,110,111,116,97,116,105,111,110,115,95,95]⟩⟩ from Fast.ofString_ofList ['_','_','a','n','n','o','t','a','t','i','o','n','s','_','_']];kernel_rfl
theorem leftF:LeftO Pf QF [] (fun s=>xlAt QF [] s&&recOk (RowW.records PySem.Challenge.rw_earworks_k01_whole_ears.row.toRowW) s) (Hook.obs Hk) (Hook.val Hk) 7282:=
 LeftO.of_pieces (boot_open (by kernel_rfl) (by decide) (fun s=>by kernel_rfl)) sz run (by decide) fun w=>funext fun os=>looks_pair (k1 w os) (looks_pair (k2 w os) (k3 w os))
noncomputable def ePf:PySem.Challenge.rw_earworks_k01_whole_ears.row.prog=Pf:=by
 show (PySem.Challenge.rw_earworks_k01_whole_ears.row).toRowW.1=_;rw [Fast.te2368527892694137696,Fast.te6228824441533323432]
theorem te (i:Nat):Pg.top i=U i:=by
 show (PySem.Challenge.rw_earworks_k01_whole_ears.row.prog).main.body.getD i _=_;rw [ePf];rfl
theorem te2 (i j:Nat):inClass (Pg.top i) j=M i j:=by
 unfold M;rw [te i]
end
end Hx
end
set_option maxHeartbeats 0
theorem Ew.na_mk {K:Frag} {C:PySem.Addr} {f:PySem.Str} (h:findIn K (.ref C) f=some none):L2.NoAttr K C f:=h
theorem Ew.cn_mk {K:Frag} {mg:PySem.Str->Option PySem.Value} {h:PySem.Heap} (KX:K.In h) (G:h.Ns PySem.mainGlobals mg) {x:PySem.Str} {z:Int} {t:PySem.Tok} (e:nsIn K PySem.mainGlobals x=some (some (.int z t))):∃ t,mg x=some (.int z t):=⟨t,mg_of KX G e⟩
open PySem PySem.W PyProof.Rows
theorem PySem.Challenge.cw_earworks_k01_whole_ears_holds : PySem.Challenge.rw_earworks_k01_whole_ears.Holds := by
 w_on;o_law
 refine holds_open (q:=(Hx.qv PySem.Challenge.rw_earworks_k01_whole_ears.row.prog)) (loose:=[]) (Xt:=(fun s=>xlAt (Hx.qv PySem.Challenge.rw_earworks_k01_whole_ears.row.prog) [] s&&recOk (RowW.records PySem.Challenge.rw_earworks_k01_whole_ears.row.toRowW) s)) (XP:=XL (Hx.qv PySem.Challenge.rw_earworks_k01_whole_ears.row.prog) []) (Yf:=Hook.obs (kHook Hx.KK Hx.ads Hx.adsE)) (Ya:=Hook.val (kHook Hx.KK Hx.ads Hx.adsE)) (YP:=Hook.says (kHook Hx.KK Hx.ads Hx.adsE)) (N:=7282) ?hl (Hook.of _) (Hook.keeps _) (fun s e=>xl_of s (Bool.and_eq_true_iff.mp e).1) XL.keeps (by rfl) (by rfl) (by rfl) (fun s e=>recFacts_of (Bool.and_eq_true_iff.mp e).2) (by rfl) (by first | assumption | decide +kernel) (by decide +kernel) ⟨rfl,rfl,rfl,rfl,rfl,by decide +kernel⟩ ?hw ?hc
 case hl=>rw [Hx.ePf];exact Hx.leftF
 case hw=>w_witness2
 k_fill
 refine L2.walk_ofK (l:=PySem.Challenge.rw_earworks_k01_whole_ears) (n:=63) (k:=7) (x:="_law_script") (CX:=L2.CX0) (sp:=Ew.spLaw) rfl (by decide) rfl ⟨rfl,by decide,by decide⟩ (fun w h Y=>kIn_of Y) ?F ?S ?C
 case F=>
  intro w mg fa h KX G hmg;have T:∃ c,Nonempty (Pg.Txt (L2.KOf KX) mg c):=by
   dsimp only [L2.KOf]
   refine' Pg.Txt.go (Pg.Txt.mk (Ew.cd_mk KX G ?_ ?_ ?_ ?_ ?_) (Ew.cd_mk KX G ?_ ?_ ?_ ?_ ?_) (Ew.cd_mk KX G ?_ ?_ ?_ ?_ ?_) (Ew.cd_mk KX G ?_ ?_ ?_ ?_ ?_) (Ew.cd_mk KX G ?_ ?_ ?_ ?_ ?_) (Ew.cd_mk KX G ?_ ?_ ?_ ?_ ?_) (Ew.na_mk ?_) (Ew.na_mk ?_) (Ew.na_mk ?_) (Ew.na_mk ?_) (Ew.na_mk ?_) (Ew.na_mk ?_) (mg_none_of KX G ?_) (mg_none_of KX G ?_) (mg_none_of KX G ?_) (mg_none_of KX G ?_) (mg_none_of KX G ?_) (mg_none_of KX G ?_) (mg_none_of KX G ?_) (mg_none_of KX G ?_) (mg_none_of KX G ?_) (mg_none_of KX G ?_) (mg_none_of KX G ?_) (mg_none_of KX G ?_) (mg_none_of KX G ?_) (mg_none_of KX G ?_) (Ew.cn_mk KX G ?_) (Ew.cn_mk KX G ?_) (Ew.ob_mk (L2.Cls.mk ?_ ?_ ?_ ?_) ?_ ?_ ?_ ?_) (Ew.ob_mk (L2.Cls.mk ?_ ?_ ?_ ?_) ?_ ?_ ?_ ?_) (Ew.ob_mk (L2.Cls.mk ?_ ?_ ?_ ?_) ?_ ?_ ?_ ?_) (Ew.ob_mk (L2.Cls.mk ?_ ?_ ?_ ?_) ?_ ?_ ?_ ?_) (Ew.ob_mk (L2.Cls.mk ?_ ?_ ?_ ?_) ?_ ?_ ?_ ?_) (Ew.kit_sub ?_ ?_ ?_ ?_) (Ew.kit_sub ?_ ?_ ?_ ?_) (Ew.kit_sub ?_ ?_ ?_ ?_) (Ew.kit_sub ?_ ?_ ?_ ?_) (Ew.kit_sub ?_ ?_ ?_ ?_) (Ew.kit_sub ?_ ?_ ?_ ?_) (Ew.kit_sub ?_ ?_ ?_ ?_) (Ew.kit_sub ?_ ?_ ?_ ?_) (Ew.kit_sub ?_ ?_ ?_ ?_) (Ew.kit_sub ?_ ?_ ?_ ?_) (Ew.kit_sub ?_ ?_ ?_ ?_) (Ew.kit_sub ?_ ?_ ?_ ?_) (Ew.kit_sub ?_ ?_ ?_ ?_) (Ew.kit_sub ?_ ?_ ?_ ?_) (Ew.kit_sub ?_ ?_ ?_ ?_) (Ew.kit_sub ?_ ?_ ?_ ?_) (Ew.kit_sub ?_ ?_ ?_ ?_) (Ew.kit_sub ?_ ?_ ?_ ?_) (Ew.kit_sub ?_ ?_ ?_ ?_) (Ew.kit_sub ?_ ?_ ?_ ?_) (Ew.kit_sub ?_ ?_ ?_ ?_) (Ew.kit_sub ?_ ?_ ?_ ?_) (Ew.kit_sub ?_ ?_ ?_ ?_) (Ew.kit_sub ?_ ?_ ?_ ?_) (Ew.kit_sub ?_ ?_ ?_ ?_) ⟨?_,?_,?_,?_,?_,?_,?_,?_,?_,?_⟩ (Ew.Fd.of KX G (Ew.fx2 (Hx.te _) ?_ ?_ ?_ ?_)) (Ew.Fd.of KX G (Ew.fx2 (Hx.te _) ?_ ?_ ?_ ?_)) (Ew.Fd.of KX G (Ew.fx2 (Hx.te _) ?_ ?_ ?_ ?_)) (Ew.Fd.of KX G (Ew.fx2 (Hx.te _) ?_ ?_ ?_ ?_)) (Ew.Fd.of KX G (Ew.fx2 (Hx.te _) ?_ ?_ ?_ ?_)) (Ew.Fd.of KX G (Ew.fx2 (Hx.te _) ?_ ?_ ?_ ?_)) (Ew.Md.of (Ew.fm2 (Hx.te2 _ _) ?_ ?_ ?_ ?_ ?_)) (Ew.Fd.of KX G (Ew.fx2 (Hx.te _) ?_ ?_ ?_ ?_)) (Ew.Fd.of KX G (Ew.fx2 (Hx.te _) ?_ ?_ ?_ ?_)) (Ew.Fd.of KX G (Ew.fx2 (Hx.te _) ?_ ?_ ?_ ?_)) (Ew.Fd.of KX G (Ew.fx2 (Hx.te _) ?_ ?_ ?_ ?_)) (Ew.Fd.of KX G (Ew.fx2 (Hx.te _) ?_ ?_ ?_ ?_)) (Ew.Fd.of KX G (Ew.fx2 (Hx.te _) ?_ ?_ ?_ ?_)) (Ew.Fd.of KX G (Ew.fx2 (Hx.te _) ?_ ?_ ?_ ?_)) (Ew.Fd.of KX G (Ew.fx2 (Hx.te _) ?_ ?_ ?_ ?_)) (Ew.Ni.of (Ew.fm2 (Hx.te2 _ _) ?_ ?_ ?_ ?_ ?_) ?_ ?_) (Ew.Md.of (Ew.fm2 (Hx.te2 _ _) ?_ ?_ ?_ ?_ ?_)) (Ew.Ni.of (Ew.fm2 (Hx.te2 _ _) ?_ ?_ ?_ ?_ ?_) ?_ ?_) (Ew.Md.of (Ew.fm2 (Hx.te2 _ _) ?_ ?_ ?_ ?_ ?_)) (Ew.Ni.of (Ew.fm2 (Hx.te2 _ _) ?_ ?_ ?_ ?_ ?_) ?_ ?_) (Ew.Fd.of KX G (Ew.fx2 (Hx.te _) ?_ ?_ ?_ ?_)) (Ew.Fd.of KX G (Ew.fx2 (Hx.te _) ?_ ?_ ?_ ?_)) (Ew.Fd.of KX G (Ew.fx2 (Hx.te _) ?_ ?_ ?_ ?_)) (Ew.Fd.of KX G (Ew.fx2 (Hx.te _) ?_ ?_ ?_ ?_)) (Ew.Fd.of KX G (Ew.fx2 (Hx.te _) ?_ ?_ ?_ ?_)) (Ew.Fd.of KX G (Ew.fx2 (Hx.te _) ?_ ?_ ?_ ?_)) (Ew.Fd.of KX G (Ew.fx2 (Hx.te _) ?_ ?_ ?_ ?_)) (Ew.Fd.of KX G (Ew.fx2 (Hx.te _) ?_ ?_ ?_ ?_)) (Ew.Ni.of (Ew.fm2 (Hx.te2 _ _) ?_ ?_ ?_ ?_ ?_) ?_ ?_) (Ew.Fd.of KX G (Ew.fx2 (Hx.te _) ?_ ?_ ?_ ?_)) (Ew.Fd.of KX G (Ew.fx2 (Hx.te _) ?_ ?_ ?_ ?_)) (Ew.Fd.of KX G (Ew.fx2 (Hx.te _) ?_ ?_ ?_ ?_)) (Ew.Fd.of KX G (Ew.fx2 (Hx.te _) ?_ ?_ ?_ ?_)) (Ew.Fd.of KX G (Ew.fx2 (Hx.te _) ?_ ?_ ?_ ?_)) (Ew.Fd.of KX G (Ew.fx2 (Hx.te _) ?_ ?_ ?_ ?_)) (Ew.Fd.of KX G (Ew.fx2 (Hx.te _) ?_ ?_ ?_ ?_)) (Ew.Fd.of KX G (Ew.fx2 (Hx.te _) ?_ ?_ ?_ ?_)) (Ew.Fd.of KX G (Ew.fx2 (Hx.te _) ?_ ?_ ?_ ?_)) (Ew.Fd.of KX G (Ew.fx2 (Hx.te _) ?_ ?_ ?_ ?_)) (Ew.Fd.of KX G (Ew.fx2 (Hx.te _) ?_ ?_ ?_ ?_)) (Ew.Fd.of KX G (Ew.fx2 (Hx.te _) ?_ ?_ ?_ ?_)) (Ew.Fd.of KX G (Ew.fx2 (Hx.te _) ?_ ?_ ?_ ?_)) (Ew.Fd.of KX G (Ew.fx2 (Hx.te _) ?_ ?_ ?_ ?_)) (Ew.Fd.of KX G (Ew.fx2 (Hx.te _) ?_ ?_ ?_ ?_)) (Ew.Fd.of KX G (Ew.fx2 (Hx.te _) ?_ ?_ ?_ ?_)) (Ew.Fd.of KX G (Ew.fx2 (Hx.te _) ?_ ?_ ?_ ?_)) (Ew.Fl'.of KX G (Ew.fxl2 (Hx.te _) ?_ ?_ ?_ ?_)))
   all_goals ((try dsimp only);try k_is)
   all_goals decide
  obtain ⟨c,⟨T⟩⟩:=T;have e0:=hmg.symm.trans T.law.mgx;have e1:fa=T.law.f:=by cases e0;rfl
  rw [e1];exact ⟨T.law.fd,T.law.bl,fun base kb nb=>(Pg.ok_law T).imp (Ew.spLaw_imp (Pg.law_true c T.ne _))⟩
 case S=>exact fun K H a ns hl hO hS=>⟨a,ns,rfl,hl,hS,fun _ _=>rfl⟩
 case C=>exact fun H s e s' h=>h
